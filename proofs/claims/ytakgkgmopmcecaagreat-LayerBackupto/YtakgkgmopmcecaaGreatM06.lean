import Derived.Test.YtakgkgmopmcecaaGreatM05
set_option maxHeartbeats 6400000
set_option maxRecDepth 100000
open Go renaming World->Ap,Calls->At,bodyPost_ret->As,results_tmp2->AD,maxLen->AH,wpQuiet_nil->AS,results->AI,Value->Ar
open Go.RowKit renaming Below->An
open Go.RowKit.Below renaming refl->Ao
open Go.IntKind renaming i64->Ak,wrap_i64->Au,u64->Al,wrap_u64->A5
open ByteArray renaming getElem_eq_getElem_data->Cw,size_extract->BH,ext->Dl
open List renaming length_drop->AO,drop_drop->Be,getElem?_take->FW,take_of_length_le->Av,getElem?_eq_getElem->Aq,range->BI,length_take->AE
open UInt64 renaming ofNat->AL,toNat_inj->BG
open Go.Value renaming int->Ab,string->Ae,slice->Aa,bool->Ad,tuple->Af,agg->Ag,pointer->Ah
open Nat renaming le_refl->AA,le_trans->AU,add_sub_cancel_left->Ee
open Bool renaming true_and->Ci
open Go.Obj renaming cells->Ai
open Go.Ending renaming returned->Aj
open Go.Proofs.Tryz renaming prog->Am
open Go.Proofs.Tryz
namespace Go.Proofs.YtakgkgmopmcecaaGreat
open Go.RowKit
variable {W W' w:Ap}{Z:Nat->Prop}{d:Dk}{fa oa:Option Addr}{fc h j oc rc tc:Nat}{k:Int}{m vf vo vr vt:Ar}{s:ByteArray}{st:St}
theorem Ly(t:ByteArray)(a:t.size<=8)(v:Nat)(b:val t.data.toList=v)(w:Ap):
  At Am 33 #[Ae t] w λ e w'=>e=Aj (Ab Al (v:Int))/\w'=w:=by
 rw[<- b];exact Ip t a w
theorem TF(bs:Bs)(hn:bs.length<=1000000)(w:Ap):
  At Am 157 #[tx bs] w λ e w'=>∃es er v,e=Aj (Af #[v,Ab Ak er])/\Hid (RT bs es er/\gM gZ 203 w' w.heap.size v es/\An w.heap.size w w'):=by
 obtain⟨s,I⟩:∃s:ByteArray,s=⟨bs.toArray⟩:=⟨_,rfl⟩
 obtain⟨N,hN⟩:=Xa s.size
 have K:bs.length=N:=by rw[<- hN,I];show _=bs.toArray.size;simp
 rw[show tx bs=Ae s by rw[I]]
 have H:=I2 I K
 have am:N<=1000000:=by omega
 clear I K hn;go_enter func157,ntmps157;go_wp2_with fail;go_loopg[4,5] N (λ m lv av wr=>∃(at_ L:Nat) (es:List En) (la:Option Addr) (lc:Nat),av=Ab Ak at_/\at_+m=N/\lv=Aa la L lc/\L<=65/\Hid (L=es.length/\Sm es/\bs=gX es++bs.drop at_/\gM gZ 203 wr w.heap.size lv es/\An w.heap.size w wr))
 case atStart=>exact⟨0,0,[],none,0,rfl,by omega,rfl,by omega,rfl,λ e h=>by simp at h,by simp[gX],gM.nil _ _ _ _,Ao _ _⟩
 case round =>
  obtain⟨p,L,es,la,lc,rfl,hm,rfl,hL,a⟩:=hrel;by_cases aa:p<N
  ·have id:(p:Int)<(N:Int):=by omega
   have ao:(0:Int)<=(p:Int):=by omega
   have an:p<s.size:=by omega
   obtain⟨y,hy⟩:=Xa (s[p])
   have af:=y.toNat_lt
   have wy:Ak.wrap (y.toNat:Int)=(y.toNat:Int):=by rw[Au];omega
   have f:bs.drop p=y::bs.drop (p+1):=by
    have ac:p<bs.length:=by rw[H.o.2];exact aa
    rw[List.drop_eq_getElem_cons ac]
    congr 1
    rw[<- hy];have I:=H.o.1;subst I;simp[Cw]
   obtain⟨z,x⟩:=Xa y.toNat
   obtain⟨g,r⟩:=Xa (p+1)
   obtain⟨i,t⟩:=Xa (g+z)
   obtain⟨d,G⟩:=Xa (p+z+9)
   rw[x]at wy af
   have i1:(p:Int)+1=(g:Int):=by omega
   have i2:(g:Int)+(z:Int)=(i:Int):=by omega
   have i3:(p:Int)+(z:Int)+9=(d:Int):=by omega
   by_cases ah:N<d
   ·have d1:(N:Int)<(d:Int):=by omega
    have b:RT bs [] 9:=Q8 a.o.2.1 a.o.2.2.1 (by rw[f];simp) (by
     rw[f];simp only[one]
     rw[AC (by rw[AO,H.o.2,x];omega)])
    have A:=Ih b;clear b f r t G;go_wp2;refine As (AD rfl _ _ _) rfl ?_;exact⟨[],9,_,rfl,A.o,gM.nil _ _ _ _,a.o.2.2.2.2⟩
   ·have d1:decide ((N:Int)<(d:Int))=false:=by rw[Az];omega
    by_cases Z:64<L
    ·have d2:(64:Int)<(L:Int):=by omega
     have b:RT bs [] 9:=SO a.o.2.1 (by rw[<- a.o.1];exact Z) a.o.2.2.1;have A:=Ih b;clear b f r t G;go_wp2;refine As (AD rfl _ _ _) rfl ?_;exact⟨[],9,_,rfl,A.o,gM.nil _ _ _ _,a.o.2.2.2.2⟩
    ·have d2:decide ((64:Int)<(L:Int))=false:=by rw[Az];omega
     have e1:(0:Int)<=(g:Int):=by omega
     have e2:(g:Int)<=(i:Int):=by omega
     have e3:(i:Int)<=(d:Int):=by omega
     have e4:(d:Int)<=(N:Int):=by omega
     have e5:(i:Int)<=(N:Int):=by omega
     have e6:(0:Int)<=(i:Int):=by omega
     have g1:Ak.wrap (g:Int)=(g:Int):=by rw[Au];omega
     have g2:Ak.wrap (i:Int)=(i:Int):=by rw[Au];omega
     have g3:Ak.wrap (d:Int)=(d:Int):=by rw[Au];omega
     have g4:Ak.wrap ((p:Int)+(z:Int))=(p:Int)+(z:Int):=by rw[Au];omega
     obtain⟨t1,ad⟩:=Xa (s.extract g i)
     obtain⟨t2,R⟩:=Xa (s.extract i d)
     obtain⟨v,W⟩:=Xa (val t2.data.toList)
     have D:t2.size<=8:=by rw[<- R,BH];omega
     have E:=λ u=>Ly t2 D v W u
     have S:t2.data.toList.length=t2.size:=rfl
     have T:(AL v).toNat=v:=by rw[<- W];exact Jn (by omega)
     have C:one (bs.drop p)=some ((t1.data.toList,AL v),bs.drop d):=by
      rw[f];simp only[one];rw[Ay (by rw[AO,H.o.2,x];omega),x,<- W,<- ad,<- R,H.o.1,Ie,Ie,Be,Be];rw[show p+1=g from r,show i - g=z by omega,show d - i=8 by omega,show g+z=i from t,show g+(z+8)=d by omega]
     obtain⟨P,Q⟩:=L8 C
     have B:bs=gX (es++[(t1.data.toList,AL v)])++bs.drop d:=by
      rw[Ox,List.append_assoc,<- P];exact a.o.2.2.1
     have HV:=Ih E
     have Y:=I3 B (a.o.2.1.snoc Q) T
     have ai:p<d/\d<=N:=by omega
     clear E B P Q C T W f D S r t G;go_wp2_with fail
     have HC:Hid (∀j u,(gZ.cells (t1.data.toList,AL v))[j]? = some u->(wr.drew.alloc (Ai #[Ae t1,Ab Al (v:Int)] 203)).cell? ((⟨wr.heap.size,0,none⟩:Addr).add j)=some u):=by
      have:=GQ gZ wr.drew (t1.data.toList,AL v) 203
      have e:(gZ.cells (t1.data.toList,AL v)).toArray=#[Ae t1,Ab Al (v:Int)]:=by
       show #[tx t1.data.toList,Ab Al ((AL v).toNat:Int)]=_;rw[Y.o.2.2]
      rw[e]at this;exact this
     have aj:=Ih a.o.2.2.2.2;have ak:=Ih a.o.2.2.2.2.drew
     go_region_held3 (λ u=>Hid (An w.heap.size w u))
      (first | with_reducible assumption | (refine mi ?_;with_reducible assumption) | (refine mI ?_;with_reducible assumption) | (refine mI (mi ?_);with_reducible assumption))
      (first
       | (refine Ix gZ 203 121 24 _ rfl Tryz.info203 underlying121 rfl (.tmp 29) (.tmp 50) rfl w.heap.size _ es (t1.data.toList,AL v) rfl (a.o.2.2.2.1.below ((Ao _ wr).drew.trans (gW wr.drew _))) wr.heap.size rfl HC.o (by rw[<- a.o.1];omega) (by rw[<- a.o.1];simp only[AH];omega) (by have:=a.o.2.2.2.2.size;simp;omega) ?_;intro v4 w4 n J ab ae;have X:Hid (An w.heap.size w w4):=a.o.2.2.2.2.trans ((((gW wr _).drew).mono a.o.2.2.2.2.size).trans J))
       | (go_at_call 33;(with_reducible refine(HV.o _).mono ?_);rintro e w3 ⟨rfl,U⟩;rw[U];clear U w3))
     all_goals
      obtain⟨a4,c4,rfl,_,_,_,_⟩:=gM.form n
      have l4:(es++[(t1.data.toList,AL v)]).length=L+1:=by rw[List.length_append,<- a.o.1];rfl
      rw[l4]at n ⊢
      have HO:=I2 n l4
      clear J ab ae n l4;go_wp2;go_roundg (N - d)
      case measure=>omega
      case rel=>exact⟨d,L+1,_,a4,c4,by go_num,by omega,rfl,by omega,HO.o.2.symm,Y.o.2.1,Y.o.1,HO.o.1,X.o⟩
  ·obtain rfl:p=N:=by omega
   have M:bs=gX es:=by
    have:=a.o.2.2.1;rw[List.drop_of_length_le (by rw[H.o.2];omega),List.append_nil]at this;exact this
   obtain⟨al,ag,e',o1,_,o3,_⟩:=gM.form a.o.2.2.2.1;rw[<- a.o.1]at e' o1;cases e';have b:=RS (c:=lc) wr o3 a.o.1.symm
   obtain⟨fe,F⟩:=Xa ((iC es).2)
   obtain⟨fb,O⟩:∃fb:ByteArray,fb=⟨(iC es).1.toArray⟩:=⟨_,rfl⟩
   rw[show tx (iC es).1=Ae fb by rw[O],F]at b
   have A:=I2 M F
   clear o1 o3 M F O;by_cases l:fe=0
   ·subst l;go_wp2_with fail;refine b.mono ?_;rintro e w2 ⟨rfl,k⟩;go_wp2;refine As (AD rfl _ _ _) rfl ?_
    have hg:RT bs es 0:=by
     have:=Up A.o.2;have V:=this.back;unfold iC at V
     split at V
     ·rename_i q
      exact .inl ⟨rfl,q,A.o.1.symm⟩
     ·rename_i q
      simp only[Prod.mk.injEq]at V;exact absurd V.2 q
    exact⟨es,0,_,rfl,hg,a.o.2.2.2.1.below k,a.o.2.2.2.2.trans (k.mono a.o.2.2.2.2.size)⟩
   ·have m0:(fe==0)=false:=by simpa using l
    have m1:(fe != 0)=true:=by simpa using l
    go_wp2_with fail;refine b.mono ?_;rintro e w2 ⟨rfl,k⟩;go_wp2;refine As (AD rfl _ _ _) rfl ?_
    have hg:RT bs [] 9:=OZ a.o.2.1 A.o.1.symm (λ q=>l (by
     have:=A.o.2;unfold iC at this;rw[AC q]at this
     exact this.symm))
    exact⟨[],9,_,rfl,hg,gM.nil _ _ _ _,a.o.2.2.2.2.trans (k.mono a.o.2.2.2.2.size)⟩
theorem fq{xs:List UInt64}{i:Nat}{x:UInt64}(h:∀k,k<i->∀y,xs[k]? = some y->y≠x):(xs.take i).any (λ y=>x==y)=false:=by
 rw[List.any_eq_false];intro y b;obtain⟨k,a⟩:=List.getElem?_of_mem b;rw[FW]at a
 split at a
 ·rename_i q
  have:=h k q y a;simp only[Eg]
  exact λ e=>this e.symm
 cases a
section
variable {w:World}{c:Cm}{pa:Option Addr}{pn pc:Nat}
theorem cV(d:c.ps.length=pn)(nt:ByteArray)(a:nt=⟨c.note.toArray⟩)(dt f:Int)(h:8<pn∨64<nt.size):
  At Am 103 #[Ag #[Ab Al f,Aa pa pn pc,Ab Ak dt,Ae nt]] w λ e w'=>e=Aj (Af #[tx (je c).1,Ab Ak (je c).2])/\An w.heap.size w w':=by
 have b:nt.size=c.note.length:=by rw[a];show c.note.toArray.size=_;simp
 have e:je c=([],4):=by
  have:jm c=4:=by unfold jm;rw[AC (by omega)]
  unfold je;rw[this];rfl
 rw[e];by_cases g:8<pn
 ·have q:(8:Int)<(pn:Int):=by omega
  clear d a b e h;go_enter func103,ntmps103;go_wp2;refine As (AD rfl _ _ _) rfl ?_;exact⟨rfl,gW _ _⟩
 ·have q:decide ((8:Int)<(pn:Int))=false:=by rw[Az];omega
  have i:(64:Int)<(nt.size:Int):=by omega
  clear d a b e h;go_enter func103,ntmps103;go_wp2;refine As (AD rfl _ _ _) rfl ?_;exact⟨rfl,gW _ _⟩
theorem fY(hr:gQ gR w pa c.ps)(hl:c.ps.length=pn)(nt:ByteArray)(E:nt=⟨c.note.toArray⟩)(dt:Int)(P:c.date=dt)(h8:pn<=8)(ae:nt.size<=64):
  At Am 103 #[Ag #[Ab Al (c.tree.toNat:Int),Aa pa pn pc,Ab Ak dt,Ae nt]] w λ e w'=>e=Aj (Af #[tx (je c).1,Ab Ak (je c).2])/\Iz w w':=by
 have ac:nt.size=c.note.length:=by rw[E];show c.note.toArray.size=_;simp
 have q:decide ((8:Int)<(pn:Int))=false:=by rw[Az];omega
 have q2:decide ((64:Int)<(nt.size:Int))=false:=by rw[Az];omega
 have h4:¬(8<c.ps.length∨64<c.note.length):=by omega
 obtain⟨W,hW⟩:=Xa (w.alloc (Ai #[Ab Al (c.tree.toNat:Int),Aa pa pn pc,Ab Ak dt,Ae nt] 129))
 have bW:Iz w W:=by rw[<- hW];exact gW _ _
 have sW:W.heap.size=w.heap.size+1:=by rw[<- hW];simp
 have bx:ib W w.heap.size 129 (Ab Al (c.tree.toNat:Int)) (Aa pa pn pc) (Ab Ak dt) (Ae nt):=by rw[<- hW];exact ib.new _ _ _ _ _ _
 obtain⟨x0,x1,x2,x3⟩:=bx.cells
 have ah:Al.wrap (pn:Int)=(pn:Int):=by rw[A5];omega
 have ag:Al.wrap (nt.size:Int)=(nt.size:Int):=by rw[A5];omega
 have H:=I8 (hr.below bW) hl bW sW bx h4 P E
 obtain⟨L,A⟩:∃L:ByteArray,L=⟨(low 8 c.tree.toNat).toArray⟩:=⟨_,rfl⟩
 obtain⟨K,z⟩:∃K:ByteArray,K=⟨(low 1 pn).toArray⟩:=⟨_,rfl⟩
 have Y:L.size=8:=by rw[A];show(low 8 c.tree.toNat).toArray.size=8;simp[Bp]
 have l1:K.size=1:=by rw[z];show(low 1 pn).toArray.size=1;simp[Bp]
 have NE:Nonempty (SW (gN W)):=⟨⟨W,Ao _ _⟩⟩
 have C:∀u:SW (gN W),ib u.w w.heap.size 129 (Ab Al (c.tree.toNat:Int)) (Aa pa pn pc) (Ab Ak dt) (Ae nt):=λ u=>bx.below u.ok (by rw[sW];omega)
 have k0:∀u:SW (gN W),u.w.cell? ⟨w.heap.size,0,none⟩=some (Ab Al (c.tree.toNat:Int)):=λ u=>(C u).cells.1
 have k1:∀u:SW (gN W),u.w.cell? ⟨w.heap.size,1,none⟩=some (Aa pa pn pc):=λ u=>(C u).cells.2.1
 have n8:∀u:SW (gN W),At Am 26 #[Ab Al (c.tree.toNat:Int),Ab Ak 8] u.w λ e w'=>e=Aj (Ae L)/\∃u':SW (gN W),w'=u'.w:=Ia c.tree.toNat 8 c.tree.toNat_lt (by omega) L A W
 have Z:∀u:SW (gN W),At Am 26 #[Ab Al (pn:Int),Ab Ak 1] u.w λ e w'=>e=Aj (Ae K)/\∃u':SW (gN W),w'=u'.w:=Ia pn 1 (by omega) (by omega) K z W
 have a1:¬(9223372036854775807<L.size+K.size):=by omega
 have HZ:Hid (L++K=⟨(low 8 c.tree.toNat++low 1 pn).toArray⟩):=by
  show _=_;rw[A,z];apply Dl;simp
 clear hr hl E P ac h4 bW sW bx C A z Y l1;go_enter func103,ntmps103;go_wp2_with fail;refine Bb (S:=gN W) (by kernel_rfl) (by kernel_rfl) (Ao _ W).drew ?_
 repeat(go_big_quiet_step (first | with_reducible exact Z _ | with_reducible exact n8 _))
 refine AS ?_;intro _ I;obtain⟨u,p⟩:=I;subst p;have N1:=Ih u.ok
 obtain⟨w1,T⟩:=Xb u.w
 rw[<- T]at N1 ⊢;clear T k0 k1 Z n8 NE u x0 x1 x2 x3;go_wp2_with fail;go_loopg[4,5,6] pn (λ m sv iv _ wr=>∃(i:Nat) (s:ByteArray),iv=Ab Ak i/\i+m=pn/\sv=Ae s/\Hid (s=⟨(low 8 c.tree.toNat++low 1 pn++kZ (c.ps.take i)).toArray⟩/\(c.ps.take i).Nodup/\Iz W wr))
 case atStart=>exact⟨0,_,rfl,by omega,rfl,by rw[HZ.o];simp[kZ],by simp,N1.o⟩
 case round =>
  obtain⟨i,s,rfl,hi,rfl,g⟩:=hrel
  have F:w.heap.size<W.heap.size:=by have:=H.o.2.2.2.1;omega
  obtain⟨x0,x1,x2,x3⟩:=(H.o.2.2.2.2.1.below g.o.2.2 F).cells;by_cases aa:i<pn
  ·have id:(i:Int)<(pn:Int):=by omega
   have ai:(0:Int)<=(i:Int):=by omega
   obtain⟨x,hx⟩:=BK H.o.2.1 aa;obtain⟨b,off,rfl,af⟩:=H.o.1.some_of hx;have M:=Ih hx
   obtain⟨w2,U⟩:=Xb wr
   rw[<- U]at g x0 x1 x2 x3 ⊢;clear U wr hx;go_wp2_with fail;go_loopg[6] i (λ m iv wr=>∃k:Nat,iv=Ab Ak k/\k+m=i/\Hid ((∀j,j<k->∀y,c.ps[j]? = some y->y≠x)/\Iz W wr))
   case atStart=>exact⟨0,rfl,by omega,λ j h=>absurd h (by omega),g.o.2.2⟩
   case round =>
    obtain⟨k,rfl,hk,n⟩:=hrel;clear x0 x1 x2 x3;obtain⟨x0,x1,x2,x3⟩:=(H.o.2.2.2.2.1.below n.o.2 F).cells;by_cases ab:k<i
    ·have kd:(k:Int)<(i:Int):=by omega
     have aj:(0:Int)<=(k:Int):=by omega
     have ak:(k:Int)<(pn:Int):=by omega
     obtain⟨y,X⟩:=BK H.o.2.1 (show k<pn by omega);obtain⟨_,c0⟩:=(H.o.1.below n.o.2).nums M.o;obtain⟨_,c1⟩:=(H.o.1.below n.o.2).nums X;by_cases t:y=x
     ·subst t
      have l:je c=([],6):=by
       have:jm c=6:=by
        unfold jm;rw[Ay H.o.2.2.2.2.2.1,AC (TT M.o (List.any_eq_true.2 ⟨y,List.mem_of_getElem? (show(c.ps.take i)[k]? = some y by rw[FW,AC ab];exact X),by simp⟩))]
       unfold je;rw[this];rfl
      clear X;go_wp2_with fail;go_quiet (fail);go_wp2;refine As (AD rfl _ _ _) rfl ?_;exact⟨by first | rfl | (rw[l];rfl),(H.o.2.2.1.trans (n.o.2.mono H.o.2.2.1.size)).trans ((jq _ _).mono (by have:=H.o.2.2.1.size;have:=n.o.2.size;omega))⟩
     ·have m0:((y.toNat:Int)==(x.toNat:Int))=false:=by
       rw[A3];intro q;exact t (BG.1 (by omega))
      have m1:(y.toNat==x.toNat)=false:=by
       rw[A3];intro q;exact t (BG.1 q)
      have HN:Hid (∀j,j<k+1->∀y,c.ps[j]? = some y->y≠x):=by
       intro j hj y' J
       rcases Nat.lt_or_ge j k with q|q
       ·exact n.o.1 j q y' J
       ·obtain rfl:j=k:=by omega
        rw[X]at J;cases J;exact t
      clear X;go_wp2_with fail;go_quiet (fail);go_wp2;go_roundg (gk - 1)
      case measure=>omega
      case rel=>exact⟨k+1,by go_num,by omega,HN.o,n.o.2.trans ((jq _ _).mono n.o.2.size)⟩
    ·obtain rfl:k=i:=by omega
     obtain⟨_,c0⟩:=(H.o.1.below n.o.2).nums M.o;have f:=Qo M.o g.o.2.1 (fq n.o.1)
     obtain⟨d,a⟩:∃d:ByteArray,d=⟨(low 8 x.toNat).toArray⟩:=⟨_,rfl⟩
     have R:At Am 26 #[Ab Al (x.toNat:Int),Ab Ak 8] wr λ e w'=>e=Aj (Ae d)/\Iz wr w':=by
      rw[a];exact Ig x.toNat 8 x.toNat_lt (by omega) wr
     have Y:d.size=8:=by rw[a];show(low 8 x.toNat).toArray.size=8;simp[Bp]
     have G:s.size<=1000:=by
      rw[g.o.1];show(low 8 c.tree.toNat++low 1 pn++kZ (c.ps.take k)).toArray.size<=_;simp[Bp,JB];omega
     have a1:¬(9223372036854775807<s.size+d.size):=by omega
     have HS:Hid (s++d=⟨(low 8 c.tree.toNat++low 1 pn++kZ (c.ps.take (k+1))).toArray⟩/\(c.ps.take (k+1)).Nodup):=by
      refine⟨?_,f⟩;rw[g.o.1,a,List.take_add_one,M.o];show _=(⟨(low 8 c.tree.toNat++low 1 pn++kZ (c.ps.take k++[x])).toArray⟩:ByteArray);rw[LC];apply Dl;simp[b8]
     clear f a Y G;go_wp2_with fail;refine R.mono ?_;rintro e w4 ⟨rfl,N⟩;have B4:=Ih (n.o.2.trans (N.mono n.o.2.size));clear N R;go_wp2;go_roundg (pn - (k+1))
     case measure=>omega
     case rel=>exact⟨k+1,_,by go_num,by omega,rfl,HS.o.1,HS.o.2,B4.o⟩
  ·obtain rfl:i=pn:=by omega
   have r:c.ps.take i=c.ps:=Av (by rw[H.o.2.1];omega)
   have f:c.ps.Nodup:=by have:=g.o.2.1;rw[r]at this;exact this
   by_cases hd:dt<0∨1099511627776<dt
   ·have l:je c=([],3):=by
     have:jm c=3:=by
      unfold jm;rw[Ay H.o.2.2.2.2.2.1,Ay (by simpa using f),AC (by rw[H.o.2.2.2.2.2.2.1];exact hd)]
     unfold je;rw[this];rfl
    clear f r;by_cases O:dt<0
    ·have d1:decide (dt<0)=true:=by simpa using O
     go_wp2;refine As (AD rfl _ _ _) rfl ?_;exact⟨by first | rfl | (rw[l];rfl),H.o.2.2.1.trans (g.o.2.2.mono H.o.2.2.1.size)⟩
    ·have d1:decide (dt<0)=false:=by simpa using O
     have d2:decide (1099511627776<dt)=true:=by rw[CZ];omega
     go_wp2;refine As (AD rfl _ _ _) rfl ?_;exact⟨by first | rfl | (rw[l];rfl),H.o.2.2.1.trans (g.o.2.2.mono H.o.2.2.1.size)⟩
   ·have d1:decide (dt<0)=false:=by rw[Az];omega
    have d2:decide (1099511627776<dt)=false:=by rw[Az];omega
    have l:je c=(kl c,0):=by
     have:jm c=0:=by
      unfold jm;rw[Ay H.o.2.2.2.2.2.1,Ay (by simpa using f),Ay (by rw[H.o.2.2.2.2.2.2.1];exact hd)]
     unfold je;rw[AC this]
    have ad:Al.wrap dt=(dt.toNat:Int):=by rw[A5];omega
    obtain⟨dn,D⟩:=Xa dt.toNat
    rw[D]at ad
    have Q:low 8 dn=b8 (dw c.date):=by rw[<- D,H.o.2.2.2.2.2.2.1];exact RU (by omega)
    obtain⟨d,a⟩:∃d:ByteArray,d=⟨(low 8 dn).toArray⟩:=⟨_,rfl⟩
    obtain⟨B,v⟩:∃B:ByteArray,B=⟨(low 1 nt.size).toArray⟩:=⟨_,rfl⟩
    have Y:d.size=8:=by rw[a];show(low 8 dn).toArray.size=8;simp[Bp]
    have l1:B.size=1:=by rw[v];show(low 1 nt.size).toArray.size=1;simp[Bp]
    have G:s.size<=1000:=by
     rw[g.o.1];show(low 8 c.tree.toNat++low 1 i++kZ (c.ps.take i)).toArray.size<=_;simp[Bp,JB];omega
    have NE:Nonempty (SW (gN wr)):=⟨⟨wr,Ao _ _⟩⟩
    have C:∀u:SW (gN wr),ib u.w w.heap.size 129 (Ab Al (c.tree.toNat:Int)) (Aa pa i pc) (Ab Ak dt) (Ae nt):=λ u=>(H.o.2.2.2.2.1.below g.o.2.2 F).below u.ok (by have:=g.o.2.2.size;omega)
    have k2:∀u:SW (gN wr),u.w.cell? ⟨w.heap.size,2,none⟩=some (Ab Ak dt):=λ u=>(C u).cells.2.2.1
    have k3:∀u:SW (gN wr),u.w.cell? ⟨w.heap.size,3,none⟩=some (Ae nt):=λ u=>(C u).cells.2.2.2
    have n8:∀u:SW (gN wr),At Am 26 #[Ab Al (dn:Int),Ab Ak 8] u.w λ e w'=>e=Aj (Ae d)/\∃u':SW (gN wr),w'=u'.w:=Ia dn 8 (by omega) (by omega) d a wr
    have Z:∀u:SW (gN wr),At Am 26 #[Ab Al (nt.size:Int),Ab Ak 1] u.w λ e w'=>e=Aj (Ae B)/\∃u':SW (gN wr),w'=u'.w:=Ia nt.size 1 (by omega) (by omega) B v wr
    have a1:¬(9223372036854775807<s.size+d.size):=by omega
    have a2:¬(9223372036854775807<(s++d).size+B.size):=by rw[Fi];omega
    have a3:¬(9223372036854775807<(s++d++B).size+nt.size):=by rw[Fi,Fi];omega
    have HE:Hid (Ae (s++d++B++nt)=tx (kl c)/\Iz w wr):=by
     refine⟨?_,H.o.2.2.1.trans (g.o.2.2.mono H.o.2.2.1.size)⟩;show Ae _=Ae _
     congr 1
     have e1:low 1 (⟨c.note.toArray⟩:ByteArray).size=[UInt8.ofNat c.note.length]:=by
      have:(⟨c.note.toArray⟩:ByteArray).size=c.note.length:=by show c.note.toArray.size=_;simp
      rw[this];rfl
     have e2:low 1 i=[UInt8.ofNat c.ps.length]:=by rw[H.o.2.1];rfl
     rw[g.o.1,r,a,v,H.o.2.2.2.2.2.2.2,e1,e2,Q];unfold kl;apply Dl;simp[b8]
    clear f r C Q D a v Y l1 G hd;go_wp2_with fail;refine Bb (S:=gN wr) (by kernel_rfl) (by kernel_rfl) (Ao _ wr).drew ?_
    repeat(go_big_quiet_step (first | with_reducible exact Z _ | with_reducible exact n8 _))
    refine AS ?_;intro _ I;obtain⟨u,p⟩:=I;subst p;have N4:=Ih (HE.o.2.trans (u.ok.mono HE.o.2.size))
    obtain⟨w4,V⟩:=Xb u.w
    rw[<- V]at N4 ⊢;clear V k2 k3 Z n8 NE u;go_wp2;refine As (AD rfl _ _ _) rfl ?_;exact⟨by rw[l,<- HE.o.1];rfl,N4.o⟩
theorem Qz(f:gQ gR w pa c.ps)(d:c.ps.length=pn)(nt:ByteArray)(a:nt=⟨c.note.toArray⟩)(dt:Int)(b:c.date=dt):
  At Am 103 #[Ag #[Ab Al (c.tree.toNat:Int),Aa pa pn pc,Ab Ak dt,Ae nt]] w λ e w'=>e=Aj (Af #[tx (je c).1,Ab Ak (je c).2])/\Iz w w':=by
 by_cases h:8<pn∨64<nt.size
 exact cV d nt a dt _ h
 exact fY f d nt a dt b (by omega) (by omega)
end
theorem Ph:∀args w,(callFunc 33 args).run Am w=.ok (.enter 33 args) w:=enters_of func33 (by kernel_rfl) rfl
section
variable {w:World}{bs:Bs}{s:ByteArray}{N:Nat}
theorem WN(a:s.size=N)(h:N<9):At Am 117 #[Ae s] w λ e w'=>e=Aj (Af #[Ag #[Ab Al 0,Aa none 0 0,Ab Ak 0,Ae ⟨#[]⟩],Ab Ak 9])/\Iz w w':=by
 have q:decide ((N:Int)<9)=true:=by rw[CZ];omega
 go_enter func117,ntmps117;go_wp2;refine As (v:=Af #[Ag #[Ab Al 0,Aa none 0 0,Ab Ak 0,Ae ⟨#[]⟩],Ab Ak 9]) ?_ rfl ⟨rfl,?_⟩
 simp[AI,Tryz.f117];go_simp
 exact gW _ _
theorem dZ(f:s.size=N)(h:¬N<9)(d:8<s.size)(a:Nat)(j:s[8].toNat=a)(g:8<a∨N<18+8*a):At Am 117 #[Ae s] w λ e w'=>e=Aj (Af #[Ag #[Ab Al 0,Aa none 0 0,Ab Ak 0,Ae ⟨#[]⟩],Ab Ak 9])/\An w.heap.size w w':=by
 have q:decide ((N:Int)<9)=false:=by rw[Az];omega
 have k:(8:Int)<(N:Int):=by omega
 have b:a<=255:=by have:=s[8].toNat_lt;omega
 have m:Ak.wrap (a:Int)=(a:Int):=by rw[Au];omega
 by_cases i:8<a
 ·have c:(8:Int)<(a:Int):=by omega
  go_enter func117,ntmps117;go_wp2;refine As (v:=Af #[Ag #[Ab Al 0,Aa none 0 0,Ab Ak 0,Ae ⟨#[]⟩],Ab Ak 9]) ?_ rfl ⟨rfl,?_⟩
  ·simp[AI,Tryz.f117];go_simp
  ·exact gW _ _
 ·have c:decide ((8:Int)<(a:Int))=false:=by rw[Az];omega
  have l:decide ((N:Int)<18+8*(a:Int))=true:=by rw[CZ];omega
  go_enter func117,ntmps117;go_wp2;refine As (v:=Af #[Ag #[Ab Al 0,Aa none 0 0,Ab Ak 0,Ae ⟨#[]⟩],Ab Ak 9]) ?_ rfl ⟨rfl,?_⟩
  ·simp[AI,Tryz.f117];go_simp
  ·exact gW _ _
theorem UG(U:s=⟨bs.toArray⟩)(hN:s.size=N)(aF:N<=9223372036854775807)(h:¬N<9)(h8:8<s.size)(d:Nat)(hy:s[8].toNat=d)(hc:d<=8)(hl:18+8*d<=N):
  At Am 117 #[Ae s] w λ e w'=>∃(c:Cm) (er:Int) (pa:Option Addr) (pc:Nat),e=Aj (Af #[Ag #[Ab Al (c.tree.toNat:Int),Aa pa c.ps.length pc,Ab Ak c.date,tx c.note],Ab Ak er])/\Hid (RC bs c er/\gQ gR w' pa c.ps/\c.ps.length<=pc/\Iz w w'/\E2 w pa c.ps.length):=by
 have q:decide ((N:Int)<9)=false:=by rw[Az];omega
 have i8:(8:Int)<(N:Int):=by omega
 have wy:Ak.wrap (d:Int)=(d:Int):=by rw[Au];omega
 have q2:decide ((8:Int)<(d:Int))=false:=by rw[Az];omega
 obtain⟨p9,ah⟩:=Xa (9+8*d)
 obtain⟨p,ag⟩:=Xa (17+8*d)
 obtain⟨r,H⟩:=Xa (18+8*d)
 have j0:Ak.wrap (8*(d:Int))=8*(d:Int):=by rw[Au];omega
 have j9:9+8*(d:Int)=(p9:Int):=by omega
 have aH:17+8*(d:Int)=(p:Int):=by omega
 have aI:18+8*(d:Int)=(r:Int):=by omega
 have k9:Ak.wrap (p9:Int)=(p9:Int):=by rw[Au];omega
 have aJ:Ak.wrap (p:Int)=(p:Int):=by rw[Au];omega
 have aK:Ak.wrap (r:Int)=(r:Int):=by rw[Au];omega
 have q3:decide ((N:Int)<(r:Int))=false:=by rw[Az];omega
 have e1:(0:Int)<=(p9:Int):=by omega
 have e2:(p9:Int)<=(p:Int):=by omega
 have e3:(p:Int)<=(N:Int):=by omega
 have e4:(0:Int)<=(r:Int):=by omega
 have e5:(r:Int)<=(N:Int):=by omega
 have e6:(8:Int)<=(N:Int):=by omega
 obtain⟨t1,ak⟩:=Xa (s.extract 0 8)
 obtain⟨t2,al⟩:=Xa (s.extract p9 p)
 obtain⟨t3,ay⟩:=Xa (s.extract r N)
 obtain⟨K,V⟩:=Xa (val t1.data.toList)
 obtain⟨v2,F⟩:=Xa (val t2.data.toList)
 have an:t1.size<=8:=by rw[<- ak,BH];omega
 have ao:t2.size<=8:=by rw[<- al,BH];omega
 have aB:t1.data.toList.length=t1.size:=rfl;have aC:t2.data.toList.length=t2.size:=rfl
 have d1:t1.data.toList=bs.take 8:=by rw[<- ak,U,Ie];simp
 have d2:t2.data.toList=(bs.drop (9+8*d)).take 8:=by rw[<- al,U,Ie,<- ah,show p - (9+8*d)=8 by omega]
 have ad:bs.length=N:=by rw[<- hN,U];show _=bs.toArray.size;simp
 have d3:t3=⟨(bs.drop (18+8*d)).toArray⟩:=by
  have:t3.data.toList=bs.drop (18+8*d):=by rw[<- ay,U,Ie,<- H,Av (by rw[AO];omega)]
  rw[<- this]
 have J:v2<18446744073709551616:=by rw[<- F];exact JO (by omega)
 have aA:=Mi J
 obtain⟨dt,M⟩:=Xa (lK v2)
 rw[M]at aA
 have aq:Hid (∀u,At Am 33 #[Ae t1] u λ e w'=>e=Aj (Ab Al (K:Int))/\w'=u):=λ u=>Ly t1 an K V u
 have ar:Hid (∀u,At Am 33 #[Ae t2] u λ e w'=>e=Aj (Ab Al (v2:Int))/\w'=u):=λ u=>Ly t2 ao v2 F u
 have z:Hid (s=⟨bs.toArray⟩/\bs.length=N/\(kT bs d).date=dt/\t3=⟨(kT bs d).note.toArray⟩/\((kT bs d).tree.toNat:Int)=(K:Int)/\bs[8]? = some (UInt8.ofNat d)):=by
  refine⟨U,ad,?_,d3,?_,?_⟩
  ·show lK (val ((bs.drop (9+8*d)).take 8))=dt;rw[<- d2,F,M]
  ·show((AL (val (bs.take 8))).toNat:Int)=_;rw[<- d1,Jn (by omega),V]
  ·have aw:8<bs.length:=by omega
   rw[Aq aw]
   have:s[8]=bs[8]:=by subst U;simp[Cw]
   rw[<- this,<- hy];simp
 have av:Hid (Iz w (w.alloc (Ai #[Ab Al 0,Aa none 0 0,Ab Ak 0,Ae ⟨#[]⟩] 129))):=gW _ _;clear U ad d1 d2 d3 aB aC an ao V F M J ah ag H hl;go_enter func117,ntmps117
 go_upto_region 4 with fail
 go_cut[5] (λ cv u=>cv=Ah (some ⟨w.heap.size+1,0,none⟩)/\Hid (ib u w.heap.size 129 (Ab Al 0) (Aa none 0 0) (Ab Ak 0) (Ae ⟨#[]⟩)/\ib u (w.heap.size+1) 129 (Ab Al (K:Int)) (Aa none 0 0) (Ab Ak dt) (Ae t3)/\Iz w u))
 case first =>
  have aE:=Ih av.o.drew
  go_region_held3 (λ u=>Hid (Iz w u))
   (first | with_reducible assumption | (refine mi ?_;with_reducible assumption) | (refine mI ?_;with_reducible assumption) | (refine mI (mi ?_);with_reducible assumption))
   (first
    | (go_at_call 33;(with_reducible refine(aq.o _).mono ?_);rintro e w3 ⟨rfl,A⟩;rw[A];clear A w3)
    | (go_at_call 33;(with_reducible refine(ar.o _).mono ?_);rintro e w3 ⟨rfl,A⟩;rw[A];clear A w3))
  all_goals
   go_wp2_with fail;go_meet;exact⟨rfl,ZV w _ _ _ _ _ _ _ _ 129 129⟩
 case rest =>
  obtain⟨rfl,HX⟩:=hcut;go_wp2_with fail;go_loopg[6] d (λ m iv wr=>∃(i:Nat) (X:Option Addr) (lc:Nat),iv=Ab Ak i/\i+m=d/\Hid (ib wr w.heap.size 129 (Ab Al 0) (Aa none 0 0) (Ab Ak 0) (Ae ⟨#[]⟩)/\ib wr (w.heap.size+1) 129 (Ab Al (K:Int)) (Aa X i lc) (Ab Ak dt) (Ae t3)/\gM gR 61 wr (w.heap.size+2) (Aa X i lc) ((BI i).map (kw bs))/\Iz w wr))
  case atStart=>exact⟨0,none,0,rfl,by omega,HX.o.1,HX.o.2.1,gM.nil _ _ _ _,HX.o.2.2⟩
  case round =>
   obtain⟨i,X,lc,rfl,hi,a⟩:=hrel;obtain⟨x0,x1,x2,x3⟩:=a.o.2.1.cells;by_cases aG:i<d
   ·have id:(i:Int)<(d:Int):=by omega
    obtain⟨a9,ab⟩:=Xa (9+8*i)
    obtain⟨n,aa⟩:=Xa (17+8*i)
    have l0:Ak.wrap (8*(i:Int))=8*(i:Int):=by rw[Au];omega
    have l9:9+8*(i:Int)=(a9:Int):=by omega
    have aL:17+8*(i:Int)=(n:Int):=by omega
    have m9:Ak.wrap (a9:Int)=(a9:Int):=by rw[Au];omega
    have aM:Ak.wrap (n:Int)=(n:Int):=by rw[Au];omega
    have o1:(0:Int)<=(a9:Int):=by omega
    have o2:(a9:Int)<=(n:Int):=by omega
    have o3:(n:Int)<=(N:Int):=by omega
    obtain⟨t4,am⟩:=Xa (s.extract a9 n)
    obtain⟨v4,W⟩:=Xa (val t4.data.toList)
    have ap:t4.size<=8:=by rw[<- am,BH];omega
    have aD:t4.data.toList.length=t4.size:=rfl
    have d4:t4.data.toList=(bs.drop (9+8*i)).take 8:=by rw[<- am,z.o.1,Ie,<- ab,show n - (9+8*i)=8 by omega]
    have au:=Ih (Ly t4 ap v4 W wr.drew)
    have hx:(kw bs i).toNat=v4:=by
     unfold kw;rw[<- d4,Jn (by omega),W]
    have aj:(BI (i+1)).map (kw bs)=(BI i).map (kw bs)++[kw bs i]:=by rw[List.range_succ,List.map_append];rfl
    have af:((BI i).map (kw bs)).length=i:=by simp
    have HS:=I4 aj af (by simp:((BI i).map (kw bs)++[kw bs i]).length=i+1) hx
    have HC:Hid (∀j u,(gR.cells (kw bs i))[j]? = some u->(wr.drew.alloc (Ai #[Ab Al (v4:Int)] 61)).cell? ((⟨wr.heap.size,0,none⟩:Addr).add j)=some u):=by
     have:=GQ gR wr.drew (kw bs i) 61;rw[show(gR.cells (kw bs i)).toArray=#[Ab Al (v4:Int)]from(by show #[Ab Al ((kw bs i).toNat:Int)]=_;rw[hx])]at this;exact this
    have hO:=a.o.2.1.lt;have aN:=(a.o.2.1.below (gW wr (Ai #[Ab Al (v4:Int)] 61)) hO).cells.2.1;clear aj af hx d4 ap aD W ab aa;go_wp2_with fail
    go_region_law
     (first
      | (refine Pj rfl (.tmp 65) 33 #[9] rfl Ph (Ae t4) (Ab Al (v4:Int)) (by simp[Act.eval,Act.put]) au.o ?_)
      | (refine Ix gR 61 75 8 _ rfl Tryz.info61 underlying75 rfl (.tmp 57) (.tmp 67) rfl (w.heap.size+2) (Aa X i lc) ((BI i).map (kw bs)) (kw bs i) (by simp[Act.eval]) (a.o.2.2.1.below ((Ao _ wr).drew.trans (gW wr.drew _))) wr.heap.size (by simp[Act.eval]) HC.o (by rw[HS.o.2.1];omega) (by rw[HS.o.2.1];simp only[AH];omega) (by simp;omega) ?_;intro v5 w5 R ac ax az;obtain⟨a5,Y,e5,_,_,_,_⟩:=gM.form R;rw[HS.o.2.2.1]at e5;subst e5;have L:=I2 R (((gW wr _).drew.mono (by omega)).trans ac:An (w.heap.size+2) wr w5);have z5:=(a.o.2.1.below L.o.2 (by omega)).cells;have g5:=(a.o.2.1.below L.o.2 (by omega)).thaw;obtain⟨z0,z1,z2,z3⟩:=z5;obtain⟨g0,g1,g2,g3⟩:=g5;clear R ac ax az)
      | fail)
    all_goals
     have HO:Hid (∀S:Ap,S=w5.setCell ⟨w.heap.size+1,1,none⟩ (Aa a5 (i+1) Y)->ib S w.heap.size 129 (Ab Al 0) (Aa none 0 0) (Ab Ak 0) (Ae ⟨#[]⟩)/\ib S (w.heap.size+1) 129 (Ab Al (K:Int)) (Aa a5 (i+1) Y) (Ab Ak dt) (Ae t3)/\gM gR 61 S (w.heap.size+2) (Aa a5 (i+1) Y) ((BI (i+1)).map (kw bs))/\Iz w S):=by
      rintro S rfl;have C:Aw (λ k=>k=w.heap.size+1) w5 (w5.setCell ⟨w.heap.size+1,1,none⟩ (Aa a5 (i+1) Y)):=BR 1 _;refine⟨(a.o.1.below L.o.2 (by omega)).turned C (by omega),(a.o.2.1.below L.o.2 (by omega)).put1 _,?_,?_⟩
      ·rw[HS.o.1];exact L.o.1.stays C (λ g E q=>by have:=(L.o.1.lt g E).1;have q':=q;omega)
      ·have b1:Iz w w5:=a.o.2.2.2.trans (L.o.2.mono (by omega));exact b1.trans (C.below b1.size (λ k hk q=>by have q':=q;omega))
     go_wp2;go_roundg (gk - 1)
     case measure=>omega
     case rel=>exact⟨i+1,a5,Y,by go_num,by omega,HO.o _ rfl⟩
   ·obtain rfl:i=d:=by omega
    obtain⟨Z,f1,f2,f3⟩:=a.o.1.thaw;obtain⟨q0,q1,x,y⟩:=a.o.1.cells;obtain⟨ai,ae⟩:=a.o.2.2.1.rdc
    have T:(kT bs i).ps.length=i:=by simp[kT]
    have l:=Qz (c:=kT bs i) (pc:=lc) ai T t3 z.o.2.2.2.1 dt z.o.2.2.1;rw[z.o.2.2.2.2.1]at l
    obtain⟨fe,P⟩:=Xa ((je (kT bs i)).2)
    obtain⟨fb,O⟩:∃fb:ByteArray,fb=⟨(je (kT bs i)).1.toArray⟩:=⟨_,rfl⟩
    rw[show tx (je (kT bs i)).1=Ae fb by rw[O],P]at l
    have G:=I4 P O T ae
    clear P O T ae ai;by_cases D:fe=0
    ·subst D;by_cases Q:fb=s
     ·subst Q;go_wp2_with fail;refine l.mono ?_;rintro e B ⟨rfl,f⟩;have t:=Ih f;clear f x0 x1 x2 x3 q0 q1 x y Z f1 f2 f3 l;obtain⟨x0,x1,x2,x3⟩:=(a.o.2.1.below t.o a.o.2.1.lt).cells;obtain⟨q0,q1,x,y⟩:=(a.o.1.below t.o a.o.1.lt).cells;obtain⟨Z,f1,f2,f3⟩:=(a.o.1.below t.o a.o.1.lt).thaw;go_wp2;refine As (v:=Af #[Ag #[Ab Al (K:Int),Aa X i lc,Ab Ak dt,Ae t3],Ab Ak 0]) ?_ rfl ?_
      ·simp[AI,Tryz.f117];go_simp
      ·have C:=GR B w.heap.size (Ab Al (K:Int)) (Aa X i lc) (Ab Ak dt) (Ae t3);have bel:=a.o.2.2.2.trans (t.o.mono a.o.2.2.2.size);have I:=(a.o.2.2.1.below t.o).stays C (λ g E q=>by have:=(a.o.2.2.1.lt g E).1;have q':=q;omega)
       have E:RC bs (kT bs i) 0:=VJ (by
        have e1:(je (kT bs i)).1=bs:=by
         have:=G.o.2.1;rw[z.o.1]at this;have h2:=A7 (λ b:ByteArray=>b.data.toList) this;simpa using h2.symm
        exact Prod.ext e1 G.o.1)
       refine⟨kT bs i,0,X,lc,?_,E,I.rdc.1,by rw[G.o.2.2.1];exact G.o.2.2.2,bel.trans (C.below bel.size (λ k hk q=>by have q':=q;omega)),by rw[G.o.2.2.1];exact I.newRow (by omega)⟩;rw[z.o.2.2.2.2.1,G.o.2.2.1,z.o.2.2.1,z.o.2.2.2.1]
     ·have m2:(fb.toList==s.toList)=false:=by
       rw[A3];intro e;apply Q;rw[ByteArray.toList_eq,ByteArray.toList_eq]at e;have:=A7 List.toArray e;apply Dl;simpa using this
      have m3:(fb.toList != s.toList)=true:=by rw[bne,m2];rfl
      go_wp2_with fail;refine l.mono ?_;rintro e B ⟨rfl,f⟩;have t:=Ih f;clear f x0 x1 x2 x3 q0 q1 x y Z f1 f2 f3 l;obtain⟨q0,q1,x,y⟩:=(a.o.1.below t.o a.o.1.lt).cells;obtain⟨Z,f1,f2,f3⟩:=(a.o.1.below t.o a.o.1.lt).thaw;go_wp2;refine As (v:=Af #[Ag #[Ab Al 0,Aa none 0 0,Ab Ak 0,Ae ⟨#[]⟩],Ab Ak 9]) ?_ rfl ?_
      ·simp[AI,Tryz.f117];go_simp
      ·have C:=GR B w.heap.size (Ab Al 0) (Aa none 0 0) (Ab Ak 0) (Ae ⟨#[]⟩);have bel:=a.o.2.2.2.trans (t.o.mono a.o.2.2.2.size);have E:RC bs lA 9:=TO z.o.2.2.2.2.2 hc (λ e=>Q (by rw[G.o.2.1,e,z.o.1]));exact⟨lA,9,none,0,rfl,E,gQ.nil _ _ _,AA _,bel.trans (C.below bel.size (λ k hk q=>by have q':=q;omega)),E2.none _ _⟩
    ·have m0:(fe==0)=false:=by simpa using D
     have m1:(fe != 0)=true:=by simpa using D
     go_wp2_with fail;refine l.mono ?_;rintro e B ⟨rfl,f⟩;have t:=Ih f;clear f x0 x1 x2 x3 q0 q1 x y Z f1 f2 f3 l;obtain⟨q0,q1,x,y⟩:=(a.o.1.below t.o a.o.1.lt).cells;obtain⟨Z,f1,f2,f3⟩:=(a.o.1.below t.o a.o.1.lt).thaw;go_wp2;refine As (v:=Af #[Ag #[Ab Al 0,Aa none 0 0,Ab Ak 0,Ae ⟨#[]⟩],Ab Ak 9]) ?_ rfl ?_
     ·simp[AI,Tryz.f117];go_simp
     ·have C:=GR B w.heap.size (Ab Al 0) (Aa none 0 0) (Ab Ak 0) (Ae ⟨#[]⟩);have bel:=a.o.2.2.2.trans (t.o.mono a.o.2.2.2.size);have E:RC bs lA 9:=TO z.o.2.2.2.2.2 hc (λ e=>D (by rw[<- G.o.1,e]));exact⟨lA,9,none,0,rfl,E,gQ.nil _ _ _,AA _,bel.trans (C.below bel.size (λ k hk q=>by have q':=q;omega)),E2.none _ _⟩
theorem MF(bs:Bs)(m:bs.length<=9223372036854775807)(w:Ap):
  At Am 117 #[tx bs] w λ e w'=>∃(c:Cm) (k:Int) (pa:Option Addr) (pc:Nat),e=Aj (Af #[Ag #[Ab Al (c.tree.toNat:Int),Aa pa c.ps.length pc,Ab Ak c.date,tx c.note],Ab Ak k])/\Hid (RC bs c k/\gQ gR w' pa c.ps/\c.ps.length<=pc/\Iz w w'/\E2 w pa c.ps.length):=by
 have j:(⟨bs.toArray⟩:ByteArray).size=bs.length:=by show bs.toArray.size=_;simp
 by_cases h:bs.length<9
 refine(WN j h).mono ?_;rintro e w' ⟨rfl,b⟩;exact⟨lA,9,none,0,rfl,RA (.inl h),gQ.nil _ _ _,AA _,b,E2.none _ _⟩
 have l:8<(⟨bs.toArray⟩:ByteArray).size:=by omega
 obtain⟨a,g⟩:=Xa ((⟨bs.toArray⟩:ByteArray)[8].toNat)
 have i:a<=255:=by have:=(⟨bs.toArray⟩:ByteArray)[8].toNat_lt;omega
 by_cases b:8<a∨bs.length<18+8*a
 refine(dZ j h l a g b).mono ?_;rintro e w' ⟨rfl,f⟩;refine⟨lA,9,none,0,rfl,RA (.inr ⟨a,?_,i,b⟩),gQ.nil _ _ _,AA _,f,E2.none _ _⟩
 have d:8<bs.length:=by omega
 rw[Aq d,<- g];simp[Cw]
 exact UG rfl j m h l a g (by omega) (by omega)
end
section
variable {w:World}{a:Option Addr}{n c:Nat}{bs:Bs}
end
section
variable {w:World}{s:ByteArray}{n:Nat}
theorem U2(a:s.size=n)(h:n<4):At Am 153 #[Ae s] w λ e w'=>e=Aj (Af #[Ag #[Ab Ak 0,tx []],Ab Ak 0,Ab Ak 10])/\Iz w w':=by
 have q:(n:Int)<4:=by omega
 go_enter func153,ntmps153;go_wp2;refine As (v:=Af #[Ag #[Ab Ak 0,tx []],Ab Ak 0,Ab Ak 10]) ?_ rfl ⟨rfl,?_⟩
 simp[AI,Tryz.f153];go_simp
 exact gW _ _
theorem db(l:s.size=n)(h:¬n<4)(t:Nat)(f:val ((s.extract 0 4).data.toList)=t)(k:8192<t):At Am 153 #[Ae s] w λ e w'=>e=Aj (Af #[Ag #[Ab Ak 0,tx []],Ab Ak 0,Ab Ak 4])/\Iz w w':=by
 have q:decide ((n:Int)<4)=false:=by rw[Az];omega
 have m:(4:Int)<=(n:Int):=by omega
 have r:(8192:Int)<(t:Int):=by omega
 obtain⟨W,d⟩:=Xa (w.alloc (Ai #[Ab Ak 0,Ae ⟨#[]⟩] 194))
 have c:Iz w W:=by rw[<- d];exact gW _ _
 have T:jo W w.heap.size 194 (Ab Ak 0) (Ae ⟨#[]⟩):=by rw[<- d];exact jo.new w _ _ _
 have a:=Ip (s.extract 0 4) (by rw[BH];omega) W;rw[f]at a
 obtain⟨p,hp⟩:=Xa (s.extract 0 4)
 rw[hp]at a
 have g:=I2 c T
 obtain⟨u,x⟩:=T.cells;obtain⟨i,j⟩:=T.thaw;clear f h c T;go_enter func153,ntmps153;go_wp2_with fail;refine a.mono ?_;rintro e w1 ⟨rfl,b⟩;rw[b];clear b w1 a;go_wp2;refine As (v:=Af #[Ag #[Ab Ak 0,tx []],Ab Ak 0,Ab Ak 4]) ?_ rfl ⟨rfl,(LX g.o.1 (AA _) _ _).1⟩;simp[AI,Tryz.f153];go_simp
theorem YX(y:s.size=n)(h:¬n<4)(t:Nat)(g:val ((s.extract 0 4).data.toList)=t)(r:¬8192<t)(u:n<9+t):At Am 153 #[Ae s] w λ e w'=>e=Aj (Af #[Ag #[Ab Ak 0,tx []],Ab Ak 0,Ab Ak 10])/\Iz w w':=by
 have q:decide ((n:Int)<4)=false:=by rw[Az];omega
 have z:(4:Int)<=(n:Int):=by omega
 have A:decide ((8192:Int)<(t:Int))=false:=by rw[Az];omega
 have C:Ak.wrap (t:Int)=(t:Int):=by rw[Au];omega
 obtain⟨c,k⟩:=Xa (5+t)
 have x:(5+(t:Int))=(c:Int):=by omega
 have j:c<=8197:=by omega
 have B:decide ((n:Int)<(c:Int)+4)=true:=by rw[CZ];omega
 obtain⟨W,f⟩:=Xa (w.alloc (Ai #[Ab Ak 0,Ae ⟨#[]⟩] 194))
 have d:Iz w W:=by rw[<- f];exact gW _ _
 have T:jo W w.heap.size 194 (Ab Ak 0) (Ae ⟨#[]⟩):=by rw[<- f];exact jo.new w _ _ _
 have a:=Ip (s.extract 0 4) (by rw[BH];omega) W;rw[g]at a
 obtain⟨p,hp⟩:=Xa (s.extract 0 4)
 rw[hp]at a
 have i:=I2 d T
 obtain⟨D,E⟩:=T.cells;obtain⟨l,m⟩:=T.thaw;clear g h d T;go_enter func153,ntmps153;go_wp2_with fail;refine a.mono ?_;rintro e w1 ⟨rfl,b⟩;rw[b];clear b w1 a;go_wp2;refine As (v:=Af #[Ag #[Ab Ak 0,tx []],Ab Ak 0,Ab Ak 10]) ?_ rfl ⟨rfl,(LX i.o.1 (AA _) _ _).1⟩;simp[AI,Tryz.f153];go_simp
theorem Zc(hz:s.size=n)(h:¬n<4)(t:Nat)(O:val ((s.extract 0 4).data.toList)=t)(h8:¬8192<t)(h9:¬n<9+t)(I:val ((s.extract (5+t) (5+t+4)).data.toList)≠ls ((s.extract 0 (5+t)).data.toList)):At Am 153 #[Ae s] w λ e w'=>e=Aj (Af #[Ag #[Ab Ak 0,tx []],Ab Ak 0,Ab Ak 11])/\Iz w w':=by
 have q:decide ((n:Int)<4)=false:=by rw[Az];omega
 have n4:(4:Int)<=(n:Int):=by omega
 have q2:decide ((8192:Int)<(t:Int))=false:=by rw[Az];omega
 have ww:Ak.wrap (t:Int)=(t:Int):=by rw[Au];omega
 obtain⟨a,x⟩:=Xa (5+t)
 have he:(5+(t:Int))=(a:Int):=by omega
 have ab:a<=8197:=by omega
 have q3:decide ((n:Int)<(a:Int)+4)=false:=by rw[Az];omega
 have aa:(a:Int)+4<=(n:Int):=by omega
 have V:(a:Int)<=(n:Int):=by omega
 have X:(0:Int)<=(a:Int):=by omega
 have tn:((a:Int)+4).toNat=a+4:=by omega
 have Y:(a:Int)<=(a:Int)+4:=by omega
 have Z:Ak.wrap ((a:Int)+4)=(a:Int)+4:=by rw[Au];omega
 obtain⟨J,f⟩:=Xa (s.extract a (a+4))
 obtain⟨k,g⟩:=Xa (s.extract 0 a)
 obtain⟨C,d⟩:=Xa (ls k.data.toList)
 obtain⟨W,N⟩:=Xa (w.alloc (Ai #[Ab Ak 0,Ae ⟨#[]⟩] 194))
 have M:Iz w W:=by rw[<- N];exact gW _ _
 have T:jo W w.heap.size 194 (Ab Ak 0) (Ae ⟨#[]⟩):=by rw[<- N];exact jo.new w _ _ _
 have j:=Ip (s.extract 0 4) (by rw[BH];omega) W;rw[O]at j
 obtain⟨p,hp⟩:=Xa (s.extract 0 4)
 rw[hp]at j
 have F:=I2 M T
 obtain⟨x0,x1⟩:=T.cells;obtain⟨f0,f1⟩:=T.thaw;clear O h M T;go_enter func153,ntmps153;go_wp2_with fail;refine j.mono ?_;rintro e w1 ⟨rfl,E⟩;rw[E];clear E w1 j
 have y:(s.extract a (a+4)).size<=4:=by rw[BH];omega
 rw[f]at y
 have A:=λ u=>Ip J (AU y (by decide)) u
 obtain⟨t1,z⟩:=Xa (val J.data.toList)
 rw[z]at A
 have i:k.data.toList.length=a:=by
  have e0:k.size=a:=by rw[<- g,BH];omega
  rw[<- e0]
  rfl
 obtain⟨m,H,b,B,K,G⟩:=Hm W.drew k.data.toList
 have ac:(convert 9 24 (Ae k)).run Am W.drew=.ok (Aa (some ⟨W.heap.size,0,none⟩) a H) m:=by
  have U:tx k.data.toList=Ae k:=by simp
  rw[U,i]at b;exact b
 have D:iE m (Aa (some ⟨W.heap.size,0,none⟩) a H) k.data.toList:=by
  have:=G.1.at G.2.1 (G.2.2 (by rw[i];simp only[AH];omega));rw[i]at this;exact this
 have r:=Km m D;rw[d]at r;have S:Hid (Iz W W.drew):=(Ao _ W).drew;have l:Hid (Iz W m):=(Ao _ W).drew.trans B
 have wc:Al.wrap (C:Int)=(C:Int):=by
  have:C<4294967296:=by rw[<- d];exact IF _
  rw[A5];omega
 rw[<- x]at f g;rw[f,g,z,d]at I
 have m0:((t1:Int) != (C:Int))=true:=by
  rw[Ex];intro q;exact I (by omega)
 rw[x]at f g;have R:=Ih A;have Q:=Ih r;clear A r b B K G D i y d z I x h9;go_wp2_with fail
 go_region_with
  (first
   | (go_at_call 27;(with_reducible refine Q.o.mono ?_);rintro e L ⟨rfl,c⟩;rw[c];clear c L)
   | (go_at_call 33;(with_reducible refine(R.o _).mono ?_);rintro e L ⟨rfl,c⟩;rw[c];clear c L))
 all_goals
  obtain⟨y0,y1⟩:=(F.o.2.below l.o).cells;obtain⟨g0,g1⟩:=(F.o.2.below l.o).thaw;have P:=Ih (F.o.1.trans (l.o.mono F.o.1.size));go_wp2;refine As (v:=Af #[Ag #[Ab Ak 0,tx []],Ab Ak 0,Ab Ak 11]) ?_ rfl ⟨rfl,(LX P.o (AA _) _ _).1⟩;simp[AI,Tryz.f153];go_simp
theorem XV(hz:s.size=n)(_h:¬n<4)(t:Nat)(R:val ((s.extract 0 4).data.toList)=t)(h8:¬8192<t)(h9:¬n<9+t)(K:val ((s.extract (5+t) (5+t+4)).data.toList)=ls ((s.extract 0 (5+t)).data.toList))(ah:4<s.size):At Am 153 #[Ae s] w λ e w'=>e=Aj (Af #[Ag #[Ab Ak (s[4].toNat:Int),Ae (s.extract 5 (5+t))],Ab Ak ((9+t:Nat):Int),Ab Ak 0])/\Iz w w':=by
 have q:decide ((n:Int)<4)=false:=by rw[Az];omega
 have n4:(4:Int)<=(n:Int):=by omega
 have q2:decide ((8192:Int)<(t:Int))=false:=by rw[Az];omega
 have ww:Ak.wrap (t:Int)=(t:Int):=by rw[Au];omega
 obtain⟨a,g⟩:=Xa (5+t)
 have he:(5+(t:Int))=(a:Int):=by omega
 have af:a<=8197:=by omega
 have q3:decide ((n:Int)<(a:Int)+4)=false:=by rw[Az];omega
 have ae:(a:Int)+4<=(n:Int):=by omega
 have aa:(a:Int)<=(n:Int):=by omega
 have ab:(0:Int)<=(a:Int):=by omega
 have tn:((a:Int)+4).toNat=a+4:=by omega
 have ac:(a:Int)<=(a:Int)+4:=by omega
 have ad:Ak.wrap ((a:Int)+4)=(a:Int)+4:=by rw[Au];omega
 obtain⟨L,h⟩:=Xa (s.extract a (a+4))
 obtain⟨l,i⟩:=Xa (s.extract 0 a)
 obtain⟨I,f⟩:=Xa (ls l.data.toList)
 obtain⟨y,hy⟩:=Xa (s[4])
 obtain⟨S,J⟩:=Xa (s.extract 5 a)
 have i4:(4:Int)<(n:Int):=by omega
 have i5:(5:Int)<=(a:Int):=by omega
 have wy:Ak.wrap (y.toNat:Int)=(y.toNat:Int):=by have:=y.toNat_lt;rw[Au];omega
 rw[g,hy,J]
 have P:((9+t:Nat):Int)=(a:Int)+4:=by omega
 rw[P];clear P
 obtain⟨W,Q⟩:=Xa (w.alloc (Ai #[Ab Ak 0,Ae ⟨#[]⟩] 194))
 have O:Iz w W:=by rw[<- Q];exact gW _ _
 have T:jo W w.heap.size 194 (Ab Ak 0) (Ae ⟨#[]⟩):=by rw[<- Q];exact jo.new w _ _ _
 have k:=Ip (s.extract 0 4) (by rw[BH];omega) W;rw[R]at k
 obtain⟨p,hp⟩:=Xa (s.extract 0 4)
 rw[hp]at k
 have F:=I2 O T
 obtain⟨x0,x1⟩:=T.cells;obtain⟨f0,f1⟩:=T.thaw;clear R O T;go_enter func153,ntmps153;go_wp2_with fail;refine k.mono ?_;rintro e w1 ⟨rfl,E⟩;rw[E];clear E w1 k
 have x:(s.extract a (a+4)).size<=4:=by rw[BH];omega
 rw[h]at x
 have A:=λ u=>Ip L (AU x (by decide)) u
 obtain⟨t1,z⟩:=Xa (val L.data.toList)
 rw[z]at A
 have j:l.data.toList.length=a:=by
  have e0:l.size=a:=by rw[<- i,BH];omega
  rw[<- e0]
  rfl
 obtain⟨r,H,b,B,M,G⟩:=Hm W.drew l.data.toList
 have ag:(convert 9 24 (Ae l)).run Am W.drew=.ok (Aa (some ⟨W.heap.size,0,none⟩) a H) r:=by
  have e1:tx l.data.toList=Ae l:=by simp
  rw[e1,j]at b;exact b
 have C:iE r (Aa (some ⟨W.heap.size,0,none⟩) a H) l.data.toList:=by
  have:=G.1.at G.2.1 (G.2.2 (by rw[j];simp only[AH];omega));rw[j]at this;exact this
 have d:=Km r C;rw[f]at d;have Y:Hid (Iz W W.drew):=(Ao _ W).drew;have m:Hid (Iz W r):=(Ao _ W).drew.trans B
 have wc:Al.wrap (I:Int)=(I:Int):=by
  have:I<4294967296:=by rw[<- f];exact IF _
  rw[A5];omega
 rw[<- g]at h i;rw[h,i,z,f]at K;have D:=K.symm;rw[D]at wc d;rw[g]at h i;have X:=Ih A;have V:=Ih d;clear A d b D B M G C j x f z K g h9;go_wp2_with fail
 go_region_with
  (first
   | (go_at_call 27;(with_reducible refine V.o.mono ?_);rintro e N ⟨rfl,c⟩;rw[c];clear c N)
   | (go_at_call 33;(with_reducible refine(X.o _).mono ?_);rintro e N ⟨rfl,c⟩;rw[c];clear c N))
 all_goals
  obtain⟨y0,y1⟩:=(F.o.2.below m.o).cells;obtain⟨g0,g1⟩:=(F.o.2.below m.o).thaw;have U:=Ih (F.o.1.trans (m.o.mono F.o.1.size));go_wp2_with fail;go_region;go_wp2;refine As (v:=Af #[Ag #[Ab Ak (y.toNat:Int),Ae S],Ab Ak ((a:Int)+4),Ab Ak 0]) ?_ rfl ⟨rfl,?_⟩
  simp[AI,Tryz.f153];go_simp;have Z:=LX U.o (AA _) (Ab Ak (y.toNat:Int)) (Ae S);exact Z.1.drew
end
theorem cZ(bs:Bs)(i j:Nat):Ae ((⟨bs.toArray⟩:ByteArray).extract i j)=tx ((bs.drop i).take (j - i)):=by
 show Ae _=Ae _
 congr 1
 rw[<- Ie bs i j]
theorem fM(bs:Bs)(w:Ap):At Am 153 #[tx bs] w λ e w'=>e=Aj (Af #[Ag #[Ab Ak (iP bs).1.1,tx (iP bs).1.2],Ab Ak ((iP bs).2.1:Int),Ab Ak (iP bs).2.2])/\Iz w w':=by
 have c:(⟨bs.toArray⟩:ByteArray).size=bs.length:=by show bs.toArray.size=_;simp
 have d:((⟨bs.toArray⟩:ByteArray).extract 0 4).data.toList=bs.take 4:=by rw[Ie];simp
 unfold iP;by_cases h:bs.length<4
 rw[AC h];exact U2 c h
 rw[Ay h];by_cases a:8192<val (bs.take 4)
 rw[AC a];exact db c h _ (by rw[d]) a
 rw[Ay a];by_cases b:bs.length<9+val (bs.take 4)
 rw[AC b];exact YX c h _ (by rw[d]) a b
 rw[Ay b]
 obtain⟨t,i⟩:=Xa (val (bs.take 4))
 rw[i]at a b ⊢
 have j:((⟨bs.toArray⟩:ByteArray).extract (5+t) (5+t+4)).data.toList=(bs.drop (5+t)).take 4:=by rw[Ie,Ee]
 have k:((⟨bs.toArray⟩:ByteArray).extract 0 (5+t)).data.toList=bs.take (5+t):=by rw[Ie];simp
 by_cases f:val ((bs.drop (5+t)).take 4)=ls (bs.take (5+t))
 rw[Ay (by simpa using f)]
 have g:4<(⟨bs.toArray⟩:ByteArray).size:=by omega
 have:=XV (w:=w) (s:=⟨bs.toArray⟩) c h t (by rw[d];exact i) a b (by rw[j,k];exact f) g;rw[cZ,Ee]at this
 have l:(⟨bs.toArray⟩:ByteArray)[4]=bs.getD 4 0:=by
  have m:4<bs.length:=by omega
  simp[List.getD,Aq m,Cw]
 rw[l]at this;exact this
 rw[AC f];exact Zc c h t (by rw[d];exact i) a b (by rw[j,k];exact f)


def encR:ju Fr:=⟨λ f=>[Ab Ak f.1,tx f.2],2,λ _=>rfl,by decide,by intro x u h;simp at h;rcases h with rfl|rfl <;> rfl⟩
theorem Wf:(Am.info? 194).map (λ i=>(i.zero,i.size,i.bytes))=some (some (Ag #[Ab Ak 0,Ae ⟨#[]⟩]),2,24):=by kernel_rfl
theorem ey(bs:Bs)(w:Ap)(s:ByteArray)(b:s=⟨bs.toArray⟩)(a:Int)(fb:Bs)(fn:Nat)(fe:Int)(h:iP bs=((a,fb),fn,fe)):At Am 153 #[Ae s] w λ e w'=>e=Aj (Af #[Ag #[Ab Ak a,tx fb],Ab Ak (fn:Int),Ab Ak fe])/\Iz w w':=by
 have:=fM bs w;rw[h,show tx bs=Ae s by rw[b]]at this;exact this
theorem d9(bs:Bs)(w:Ap)(Q:bs.length<=1000000000000):
  At Am 93 #[tx bs] w λ e w'=>∃lv,e=Aj (Af #[lv,Ab Ak ((kJ bs).2.1:Int),Ab Ak (kJ bs).2.2])/\Hid (gM encR 194 w' w.heap.size lv (kJ bs).1/\Iz w w'):=by
 obtain⟨s,z⟩:∃s:ByteArray,s=⟨bs.toArray⟩:=⟨_,rfl⟩
 obtain⟨n,T⟩:=Xa s.size
 have F:bs.length=n:=by rw[<- T,z];show _=bs.toArray.size;simp
 rw[show tx bs=Ae s by rw[z]]
 have H:=I2 F z
 have R:n<=1000000000000:=by omega
 clear F z Q;go_enter func93,ntmps93;go_wp2_with fail;go_loopg[5,6] n (λ m lv dv wr=>∃(d:Nat) (g:List Fr),dv=Ab Ak d/\d<=n/\m=n - d/\Hid (gM encR 194 wr w.heap.size lv g/\Iz w wr/\Hp bs g d))
 case atStart=>exact⟨0,[],rfl,Nat.zero_le _,by omega,gM.nil _ _ _ _,Ao _ _,Hp.start bs⟩
 case round =>
  obtain⟨d,g,rfl,hd,V,a⟩:=hrel;by_cases t:d<n
  have id:(d:Int)<(n:Int):=by omega
  have U:(d:Int)<=(n:Int):=by omega
  have P:(0:Int)<=(d:Int):=by omega
  obtain⟨O,i⟩:=Xa (iP (bs.drop d));obtain⟨⟨f,fb⟩,fn,fe⟩:=O;obtain⟨p,hp⟩:=Xa (s.extract d n)
  have E:p=⟨(bs.drop d).toArray⟩:=by
   have:=Ie bs d n;rw[<- H.o.2,hp]at this;have L:(bs.drop d).take (n - d)=bs.drop d:=Av (by rw[AO,H.o.1];omega);rw[L]at this;rw[<- this]
  have G:=ey (bs.drop d) wr p E f fb fn fe i;have l:=Ih i;clear i E;go_wp2_with fail;refine G.mono ?_;rintro e h ⟨rfl,k⟩;clear G;by_cases B:fe=0;subst B;have c:=Mu (b:=bs.drop d) (by rw[l.o]);rw[l.o,AO,H.o.1]at c;simp only at c;have M:=c.2.1;have N:=c.1;obtain⟨wA,x⟩:=Xa (h.alloc (Ai #[Ab Ak f,tx fb] 194))
  have q:Iz wr wA:=by rw[<- x];exact k.trans ((gW h _).mono k.size)
  have bx:jo wA h.heap.size 194 (Ab Ak f) (tx fb):=by rw[<- x];exact jo.new h _ _ _
  have y:=I3 (a.o.1.below q) (a.o.2.1.trans (q.mono a.o.2.1.size)) a.o.2.2;obtain⟨X,Y⟩:=bx.cells;have S:=a.o.2.2.2.1;clear q bx k c;go_wp2_with(at_builtin;refine BA encR 194 188 24 _ rfl Wf underlying188 rfl (.tmp 27) (.tmp 29) rfl w.heap.size _ g (f,fb) _ rfl y.o.1 rfl (by omega) (by simp only[AH];omega) y.o.2.1.size _ rfl ?_;intro v4 I u r C D)
  have K:Hid (gM encR 194 I w.heap.size v4 (g++[(f,fb)])/\Iz w I/\Hp bs (g++[(f,fb)]) (d+fn)):=by
   refine⟨u,y.o.2.1.trans r,?_⟩;have:=y.o.2.2.step (by rw[H.o.1];exact t) (by rw[l.o]);rw[l.o]at this;exact this
  clear u r C D;go_wp2;go_roundg (n - (d+fn))
  case measure=>omega
  case rel=>exact⟨d+fn,_,by go_num,by omega,rfl,K⟩
  have W:(fe != 0)=true:=by simpa using B
  have j:=a.o.2.2.stop (by rw[H.o.1];exact t) (by rw[l.o];exact B);rw[l.o]at j;simp only at j
  have J:Hid (gM encR 194 (h.alloc (Ai #[Ab Ak f,tx fb] 194)) w.heap.size u5 g/\Iz w (h.alloc (Ai #[Ab Ak f,tx fb] 194))):=by
   have q:Iz wr (h.alloc (Ai #[Ab Ak f,tx fb] 194)):=k.trans ((gW h _).mono k.size);exact⟨a.o.1.below q,a.o.2.1.trans (q.mono a.o.2.1.size)⟩
  clear k;go_wp2;refine As (v:=Af #[u5,Ab Ak (d:Int),Ab Ak fe]) ?_ rfl ?_
  simp[AI,Tryz.f93];rw[j];exact⟨u5,rfl,J.o⟩
  obtain rfl:d=n:=by omega
  have A:=a.o.2.2.done (by rw[H.o.1];omega);go_wp2;refine As (v:=Af #[u5,Ab Ak (d:Int),Ab Ak 0]) ?_ rfl ?_
  simp[AI,Tryz.f93];rw[A];exact⟨u5,rfl,a.o.1,a.o.2.1⟩
section
variable {w:World}{s b:Nat}{st:St}{S:Nat->Prop}{a:Option Addr}{n c:Nat}{body:Bs}
theorem Jy(x:UInt64):(x.toNat:Int)=0↔x=0:=by
 constructor
 intro q;exact BG.1 (by simpa using q)
 rintro rfl;rfl
end
def jh(Z:Nat->Prop)(w:Ap)(m:Ar)(st:St)(d:Dk):Prop :=
 ∃fa fl fc oa on oc ra rn rc ta tn tc,m=rm d (Aa fa fl fc) (Aa oa on oc) (Aa ra rn rc) (Aa ta tn tc)/\LG iz Z w fa fl fc d.files/\LG iH Z w oa on oc st.objs/\LG ix Z w ra rn rc st.refs/\LG ix Z w ta tn tc st.tags
section
variable {Z Z' T:Nat->Prop}{w w':World}{m:Value}{st:St}{d:Dk}
theorem jh.below(h:jh Z w m st d)(a:Iz w w'):jh Z w' m st d:=by
 obtain⟨fa,b,fc,oa,on,oc,j,k,rc,l,n,tc,e,c,f,g,i⟩:=h;exact⟨fa,b,fc,oa,on,oc,j,k,rc,l,n,tc,e,c.below a,f.below a,g.below a,i.below a⟩
theorem jh.mono(h:jh Z w m st d)(a:∀i,Z' i->Z i):jh Z' w m st d:=by
 obtain⟨fa,b,fc,oa,on,oc,k,l,rc,n,o,tc,e,c,f,g,j⟩:=h;exact⟨fa,b,fc,oa,on,oc,k,l,rc,n,o,tc,e,c.mono a,f.mono a,g.mono a,j.mono a⟩
theorem jh.turned(h:jh Z w m st d)(b:Aw T w w')(a:∀i,T i->Z i):jh Z w' m st d:=by
 obtain⟨fa,c,fc,oa,on,oc,l,n,rc,o,p,tc,e,f,g,j,k⟩:=h;exact⟨fa,c,fc,oa,on,oc,l,n,rc,o,p,tc,e,f.turned b a,g.turned b a,j.turned b a,k.turned b a⟩
theorem jh.into(h:jh Z w m st d)(a:∀i,i<w.heap.size->Z' i->Z i):jh Z' w m st d:=by
 obtain⟨fa,b,fc,oa,on,oc,k,l,rc,n,o,tc,e,c,f,g,j⟩:=h;exact⟨fa,b,fc,oa,on,oc,k,l,rc,n,o,tc,e,c.into a,f.into a,g.into a,j.into a⟩
end
theorem Bu(w:Ap)(Q:Nat)(v0 a b v3 v4 v5 c d e:Ar):
  Aw (λ i=>i=Q) w (((((((((w.setCell ⟨Q,0,none⟩ v0).setCell ⟨Q,1,none⟩ a).setCell ⟨Q,2,none⟩ b).setCell ⟨Q,3,none⟩ v3).setCell ⟨Q,4,none⟩ v4).setCell ⟨Q,5,none⟩ v5).setCell ⟨Q,6,none⟩ c).setCell ⟨Q,7,none⟩ d).setCell ⟨Q,8,none⟩ e) :=
 (((((((((Aw.refl (λ i=>i=Q) w).setCell (p:=⟨Q,0,none⟩) (.inl (show Q=Q from rfl)) v0).setCell (p:=⟨Q,1,none⟩) (.inl (show Q=Q from rfl)) a).setCell (p:=⟨Q,2,none⟩) (.inl (show Q=Q from rfl)) b).setCell (p:=⟨Q,3,none⟩) (.inl (show Q=Q from rfl)) v3).setCell (p:=⟨Q,4,none⟩) (.inl (show Q=Q from rfl)) v4).setCell (p:=⟨Q,5,none⟩) (.inl (show Q=Q from rfl)) v5).setCell (p:=⟨Q,6,none⟩) (.inl (show Q=Q from rfl)) c).setCell (p:=⟨Q,7,none⟩) (.inl (show Q=Q from rfl)) d).setCell (p:=⟨Q,8,none⟩) (.inl (show Q=Q from rfl)) e
structure kG(w W:Ap)(d:Dk)(vf vo vr vt:Ar)(k:Int)(s:ByteArray):Prop where
 bel:An w.heap.size w W
 box:GC W w.heap.size d vf vo vr vt
 fr:jo W (w.heap.size+1) 194 (Ab Ak k) (Ae s)
 res:iR W (w.heap.size+2) (Aa none 0 0) (Ab Ak 0) (Ad false) (Ad false) (Ab Ak 0) (Ab Ak 0) (Aa none 0 0) (Aa none 0 0) (Aa none 0 0)
section
variable {w W W':World}{d:Dk}{vf vo vr vt:Value}{k:Int}{s:ByteArray}
theorem kG.below(h:kG w W d vf vo vr vt k s)(a:Iz W W'):kG w W' d vf vo vr vt k s :=
 ⟨h.bel.trans (a.mono h.bel.size),h.box.below a h.box.lt,h.fr.below a,h.res.below a h.res.lt⟩
theorem kG.new(w:Ap)(d:Dk)(vf vo vr vt:Ar)(k:Int)(s:ByteArray):
  kG w (((w.alloc (iD d vf vo vr vt)).alloc (Ai #[Ab Ak k,Ae s] 194)).alloc (Ai #[Aa none 0 0,Ab Ak 0,Ad false,Ad false,Ab Ak 0,Ab Ak 0,Aa none 0 0,Aa none 0 0,Aa none 0 0] 34)) d vf vo vr vt k s:=by
 have b:(w.alloc (iD d vf vo vr vt)).heap.size=w.heap.size+1:=by simp
 have c:((w.alloc (iD d vf vo vr vt)).alloc (Ai #[Ab Ak k,Ae s] 194)).heap.size=w.heap.size+2:=by simp
 have b2:=jo.new (w.alloc (iD d vf vo vr vt)) 194 (Ab Ak k) (Ae s);rw[b]at b2;have a:=iR.new ((w.alloc (iD d vf vo vr vt)).alloc (Ai #[Ab Ak k,Ae s] 194)) (Aa none 0 0) (Ab Ak 0) (Ad false) (Ad false) (Ab Ak 0) (Ab Ak 0) (Aa none 0 0) (Aa none 0 0) (Aa none 0 0);rw[c]at a;exact⟨nC _ _ _ _,((iR.new w _ _ _ _ _ _ _ _ _).below (gW _ _) (by rw[b];omega)).below (gW _ _) (by rw[c];omega),b2.below (gW _ _),a⟩
theorem kG.size(h:kG w W d vf vo vr vt k s):w.heap.size+3<=W.heap.size:=by
 have:=h.res.lt;omega
end
theorem PX(h:kG w W d vf vo vr vt k s)(x y:Ar)(t:TypeId):Hid (kG w (W.alloc (Ai #[x,y] t)).drew d vf vo vr vt k s/\jo (W.alloc (Ai #[x,y] t)).drew W.heap.size t x y) :=
 ⟨h.below (gW W _).drew,jo.new W t x y⟩
theorem JE(h:kG w W d vf vo vr vt k s)(a:An (w.heap.size+3) W W'):kG w W' d vf vo vr vt k s :=
 ⟨h.bel.trans (a.mono (by omega)),h.box.below a (by omega),(a.block _ (by omega)).trans h.fr,h.res.below a (by omega)⟩
def Zx(Z:Nat->Prop)(w:Ap):Nat->Prop:=λ i=>Z i∨(w.heap.size<=i/\i<w.heap.size+3)
theorem EY(a:Iz w W)(h:jh (Zx Z w) W m st d)(b:Aw (λ i=>i=w.heap.size+2) W W'):jh Z W' m st d/\Iz w W' :=
 ⟨(h.turned b (λ i q=>.inr (by have q:=q;omega))).mono (λ _ q=>.inl q),a.trans (b.below a.size (λ i hi q=>by have q:=q;omega))⟩
theorem JG{a:Ap}{u:Ar}(b:Iz w W)(h:jh (Zx Z w) W m st d)(c:a=W.setCell ⟨w.heap.size,j,none⟩ u)(e:Aw (λ i=>i=w.heap.size+2) a W'):jh Z W' m st d/\Iz w W':=by
 have t1:Aw (λ i=>i=w.heap.size) W a:=by rw[c];exact BR _ _
 exact EY (b.trans (t1.below b.size (λ i hi q=>by have q:=q;omega))) (h.turned t1 (λ i q=>.inr (by have q:=q;omega))) e
theorem Tryz.info225:(Am.info? 225).map (λ i=>(i.zero,i.size,i.bytes))=some (some (Ag #[Ab Ak 0,Ab Al 0,Ae ⟨#[]⟩]),3,32):=by kernel_rfl
theorem Vi{y k:Option Addr}{on x:Nat}(hZ:∀i,Z i->i<w.heap.size)(h1:LG iz Z w fa j fc d.files)(h2:LG iH Z w oa on oc st.objs)(h3:LG ix Z w y x rc st.refs)(h4:LG ix Z w k h tc st.tags)(aj:st.size<=1000000)(body:Bs)(ao:body.length<=1000000):
  At Am 94 #[rm d (Aa fa j fc) (Aa oa on oc) (Aa y x rc) (Aa k h tc),Ag #[Ab Ak 4,tx body]] w λ e w'=>∃m',e=Aj (Af #[m',Ad (st.fits (4,body))])/\Hid (jh Z w' m' (if st.fits (4,body)then st.take (4,body)else st) d/\Iz w w'):=by
 have hq:st.objs.length<=1000000/\st.refs.length<=1000000/\st.tags.length<=1000000:=by unfold St.size at aj;omega
 have ho:on<=1000000:=by rw[<- h2.len];exact hq.1
 have ac:x<=1000000:=by rw[<- h3.len];exact hq.2.1
 have ap:h<=1000000:=by rw[<- h4.len];exact hq.2.2
 obtain⟨s,hs⟩:∃s:ByteArray,s=⟨body.toArray⟩:=⟨_,rfl⟩
 have S:s.size=body.length:=by rw[hs];show body.toArray.size=_;simp
 obtain⟨g,hg⟩:=Xa (st.fits (4,body))
 obtain⟨B,r⟩:=Xa ((if st.fits (4,body)then st.take (4,body)else st))
 rw[r,hg,show tx body=Ae s by rw[hs]]
 obtain⟨W,hW⟩:=Xa (((w.alloc (iD d (Aa fa j fc) (Aa oa on oc) (Aa y x rc) (Aa k h tc))).alloc (Ai #[Ab Ak 4,Ae s] 194)).alloc (Ai #[Aa none 0 0,Ab Ak 0,Ad false,Ad false,Ab Ak 0,Ab Ak 0,Aa none 0 0,Aa none 0 0,Aa none 0 0] 34))
 have P:Hid (kG w W d (Aa fa j fc) (Aa oa on oc) (Aa y x rc) (Aa k h tc) 4 s):=by rw[<- hW];exact kG.new w d _ _ _ _ _ _
 have zx:∀i,i<w.heap.size->Zx Z w i->Z i:=λ i hi q=>q.elim (λ q=>q) (λ q=>by omega)
 have L:=I4 (h1.into zx) (h2.into zx) (h3.into zx) (h4.into zx)
 have RB:Hid (∀W',Iz w W'->jh (Zx Z w) W' (rm d (Aa fa j fc) (Aa oa on oc) (Aa y x rc) (Aa k h tc)) st d):=λ W' b=>⟨fa,j,fc,oa,on,oc,y,x,rc,k,h,tc,rfl,L.o.1.below b,L.o.2.1.below b,L.o.2.2.1.below b,L.o.2.2.2.below b⟩
 have HZ:Hid (∀i,Zx Z w i->i<w.heap.size+3):=λ i q=>q.elim (λ q=>by have:=hZ i q;omega) (λ q=>q.2)
 have HS:=I4 hs r hg S
 have aq:¬9223372036854775807<s.size:=by omega
 have falls:g=false->B=st:=λ q=>by rw[<- HS.o.2.1,HS.o.2.2.1,q];rfl
 have C:g=true->B=st.take (4,body):=λ q=>by rw[<- HS.o.2.1,HS.o.2.2.1,q];rfl
 obtain⟨x0,x1,x2,x3,x4,x5,x6,x7,x8⟩:=P.o.box.cells;obtain⟨y0,y1⟩:=P.o.fr.cells;obtain⟨z0,z1,z2,z3,z4,z5,z6,z7,z8⟩:=P.o.res.cells;have a:=P.o.res.thaw;have g0:=a 0;have g1:=a 1;have g2:=a 2;have U:=a 3;have V:=a 4;have X:=a 5;have Y:=a 6;have g7:=a 7;have g8:=a 8;have l2:=P.o.res.lt;clear a;have D:=HS.o.2.2.1;unfold St.fits at D;rw[AC (by simp)]at D;simp only at D;by_cases h8:body.length<8
 ·have t8:(s.size:Int)<8:=by omega
  have al:s.size<8:=by omega
  have p:g=false:=by rw[<- D,show decide (8<=body.length)=false by simp;omega];rfl
  have es:=falls p;subst p es;clear h1 h2 h3 h4 hq D hs hg r zx falls C S;go_enter func94,ntmps94;go_wp2;refine As (v:=Af #[rm d (Aa fa j fc) (Aa oa on oc) (Aa y x rc) (Aa k h tc),Ad false]) ?_ rfl ⟨_,rfl,?_⟩
  ·simp[AI,Tryz.f94];go_simp
  ·exact EY P.o.bel (RB.o _ P.o.bel) (Bu _ _ _ _ _ _ _ _ _ _ _)
 have t8:¬(s.size:Int)<8:=by omega
 have al:¬s.size<8:=by omega
 have ar:8<=s.size:=by omega
 rw[show decide (8<=body.length)=true by simp;omega,Ci]at D
 obtain⟨nm,E⟩:=Xa (iL body)
 obtain⟨i,hi⟩:=Xa (jf body)
 rw[E,hi]at D
 obtain⟨G,ai⟩:∃G:ByteArray,s.extract 8 s.size=G:=⟨_,rfl⟩
 obtain⟨sh,ah⟩:∃sh:ByteArray,s.extract 0 8=sh:=⟨_,rfl⟩
 have I:G=⟨nm.toArray⟩:=by rw[<- ai,Oi,HS.o.1,<- E];rfl
 have Q:sh=⟨(body.take 8).toArray⟩:=by rw[<- ah,JT,HS.o.1]
 have N:val sh.data.toList=i.toNat:=by rw[Q,<- hi];exact(Jn (l:=body.take 8) (by rw[AE];omega)).symm
 have K:sh.size<=8:=by rw[Q];show(body.take 8).toArray.size<=8;simp;omega
 have an:G.size<=1000000:=by rw[I,<- E];show(iL body).toArray.size<=_;unfold iL;simp;omega
 have aa:G.data.toList=nm:=by rw[I]
 have m:=λ W'=>Hy G (by omega) W'
 rw[aa]at m
 have M:=λ W'=>Ip sh K W'
 rw[N]at M
 obtain⟨xi,T⟩:∃xi:Int,(i.toNat:Int)=xi:=⟨_,rfl⟩
 rw[T]at M
 have H:=I4 I E hi T
 cases e1:gS nm with
 | false =>
  replace m:=m W
  rw[e1]at m
  have p:g=false:=by rw[<- D,e1];rfl
  have es:=falls p;subst p es;clear h1 h2 h3 h4 hq D hs hg r zx falls C M S I Q N K aa E hi T;go_enter func94,ntmps94;go_wp2_with fail;refine m.mono ?_;rintro e w1 ⟨rfl,t⟩;rw[t];clear t w1;go_wp2;refine As (v:=Af #[rm d (Aa fa j fc) (Aa oa on oc) (Aa y x rc) (Aa k h tc),Ad false]) ?_ rfl ⟨_,rfl,?_⟩
  ·simp[AI,Tryz.f94];go_simp
  ·exact EY P.o.bel (RB.o _ P.o.bel) (Bu _ _ _ _ _ _ _ _ _ _ _)
 | true =>
  replace m:=m W
  rw[e1]at m;rw[e1,Ci]at D;clear h1 h2 h3 h4 hs hg r zx S I Q N K aa E hi T;go_enter func94,ntmps94;go_wp2_with fail;refine m.mono ?_;rintro e w1 ⟨rfl,t⟩;rw[t];clear t w1
  go_upto_region 4 with fail
  have ag:=Ih M;clear M;go_cut[6] (λ cv u=>cv=Ah (some ⟨W.heap.size,0,none⟩)/\Hid (kG w u d (Aa fa j fc) (Aa oa on oc) (Aa y x rc) (Aa k h tc) 4 s/\jo u W.heap.size 271 (Ae G) (Ab Al xi)))
  case first =>
   go_region_held3 (λ u=>u.cell? ⟨w.heap.size+1,0,none⟩=some (Ab Ak 4)/\u.cell? ⟨w.heap.size+1,1,none⟩=some (Ae s)) (go_keep)
    (first|(go_at_call 33;refine(ag.o _).mono ?_;rintro e w1 ⟨rfl,t⟩;rw[t];clear t w1))
   all_goals
    go_wp2_with fail;go_meet;exact⟨rfl,PX P.o _ _ _⟩
  case rest =>
   obtain⟨rfl,O⟩:=hcut;clear x0 x1 x2 x3 x4 x5 x6 x7 x8 y0 y1 z0 z1 z2 z3 z4 z5 z6 z7 z8 g0 g1 g2 U V X Y g7 g8 l2;obtain⟨x0,x1,x2,x3,x4,x5,x6,x7,x8⟩:=O.o.1.box.cells;obtain⟨y0,y1⟩:=O.o.1.fr.cells;obtain⟨z0,z1,z2,z3,z4,z5,z6,z7,z8⟩:=O.o.1.res.cells;have a:=O.o.1.res.thaw;have g0:=a 0;have g1:=a 1;have g2:=a 2;have U:=a 3;have V:=a 4;have X:=a 5;have Y:=a 6;have g7:=a 7;have g8:=a 8;have l2:=O.o.1.res.lt;clear a;obtain⟨n0,n1⟩:=O.o.2.cells
   obtain⟨q,R⟩:=Xa (st.has 3 i)
   have hh:=Ij (d:=d) (oc:=oc) (vf:=Aa fa j fc) (vr:=Aa y x rc) (vt:=Aa k h tc) (L.o.2.1.rd.below O.o.1.bel) L.o.2.1.len ho 3 i q R;rw[H.o.2.2.2]at hh;rw[R]at D;have HF:Hid _:=D
   have FL:=I2 falls C
   have HQ:=Ih R;clear D falls C R hq;go_wp2_with fail;refine hh.mono ?_;rintro e w6 ⟨rfl,B6⟩
   have n:=I2 (O.o.1.below B6) (O.o.2.below B6)
   clear hh B6 O n0 n1;clear x0 x1 x2 x3 x4 x5 x6 x7 x8 y0 y1 z0 z1 z2 z3 z4 z5 z6 z7 z8 g0 g1 g2 U V X Y g7 g8 l2;obtain⟨x0,x1,x2,x3,x4,x5,x6,x7,x8⟩:=n.o.1.box.cells;obtain⟨y0,y1⟩:=n.o.1.fr.cells;obtain⟨z0,z1,z2,z3,z4,z5,z6,z7,z8⟩:=n.o.1.res.cells;have a:=n.o.1.res.thaw;have g0:=a 0;have g1:=a 1;have g2:=a 2;have U:=a 3;have V:=a 4;have X:=a 5;have Y:=a 6;have g7:=a 7;have g8:=a 8;have l2:=n.o.1.res.lt;clear a;obtain⟨n0,n1⟩:=n.o.2.cells;by_cases F:i=0
   ·have am:xi=0:=by rw[<- H.o.2.2.2];exact(Jy i).2 F
    subst am;have ab:=LF (c:=rc) st.refs nm w6 (L.o.2.2.1.rd.below n.o.1.bel) L.o.2.2.1.len ac;rw[show tx nm=Ae G by rw[H.o.1]]at ab;go_wp2_with fail;refine ab.mono ?_;rintro e w7 ⟨r7,rfl,R7,af⟩;rw[af];clear af w7 ab
    rcases R7.o with⟨q1,q2⟩ | ⟨q1,i7,q2⟩
    ·subst q2
     have p:g=false:=by rw[<- HF.o,Ay (by omega),AC F];exact q1
     have es:=FL.o.1 p;subst p es;clear q1 F;go_wp2;refine As (v:=Af #[rm d (Aa fa j fc) (Aa oa on oc) (Aa y x rc) (Aa k h tc),Ad false]) ?_ rfl ⟨_,rfl,?_⟩
     ·simp[AI,Tryz.f94];go_simp
     ·exact EY n.o.1.bel (RB.o _ n.o.1.bel) (Bu _ _ _ _ _ _ _ _ _ _ _)
    ·subst q2
     have p7:¬(i7:Int)<0:=by omega
     have p8:(0:Int)<=(i7:Int):=by omega
     have p:g=true:=by rw[<- HF.o,Ay (by omega),AC F];exact q1
     have es:B={ st with refs:=kh st.refs nm }:=by rw[FL.o.2 p];unfold St.take;rw[AC rfl];rw[show jf (4,body).2=i from H.o.2.2.1,AC F,show iL (4,body).2=nm from H.o.2.1]
     subst p es;have ae:=Re (c:=rc) st.refs nm w6 (L.o.2.2.1.rd.below n.o.1.bel) L.o.2.2.1.len ac;rw[show tx nm=Ae G by rw[H.o.1]]at ae;clear q1 F;go_wp2_with fail;refine ae.mono ?_;rintro e w8 ⟨v8,rfl,R8⟩;obtain⟨a8,c8,e8,A⟩:=LG.ofOwn (Z:=Zx Z w) R8.o.1 (λ i q=>by have:=HZ.o i q;have:=n.o.1.size;omega)
     obtain⟨n8,J⟩:=Xa ((kh st.refs nm).length)
     rw[J]at e8 A;subst e8
     have f:=I2 (n.o.1.below R8.o.2) A
     have f7:=f.o.1.box.thaw 7;have l0:=f.o.1.box.lt
     have ak:w.heap.size≠w.heap.size+2:=by omega
     clear ae A J R8 n0 n1;clear x0 x1 x2 x3 x4 x5 x6 x7 x8 y0 y1 z0 z1 z2 z3 z4 z5 z6 z7 z8 g0 g1 g2 U V X Y g7 g8 l2;obtain⟨x0,x1,x2,x3,x4,x5,x6,x7,x8⟩:=f.o.1.box.cells;obtain⟨y0,y1⟩:=f.o.1.fr.cells;obtain⟨z0,z1,z2,z3,z4,z5,z6,z7,z8⟩:=f.o.1.res.cells;have a:=f.o.1.res.thaw;have g0:=a 0;have g1:=a 1;have g2:=a 2;have U:=a 3;have V:=a 4;have X:=a 5;have Y:=a 6;have g7:=a 7;have g8:=a 8;have l2:=f.o.1.res.lt;clear a;go_wp2;refine As (v:=Af #[rm d (Aa fa j fc) (Aa oa on oc) (Aa a8 n8 c8) (Aa k h tc),Ad true]) ?_ rfl ⟨_,rfl,?_⟩
     ·simp[AI,Tryz.f94];go_simp
     ·exact JG f.o.1.bel (⟨fa,j,fc,oa,on,oc,a8,n8,c8,k,h,tc,rfl,L.o.1.below f.o.1.bel,L.o.2.1.below f.o.1.bel,f.o.2,L.o.2.2.2.below f.o.1.bel⟩) rfl (Bu _ _ _ _ _ _ _ _ _ _ _)
   ·have m1:(xi==0)=false:=by
     rw[<- H.o.2.2.2]
     have:=λ z=>F ((Jy i).1 z)
     simpa using this
    cases q with
    | false =>
     have p:g=false:=by rw[<- HF.o,Ay (by omega),Ay F]
     have es:=FL.o.1 p;subst p es;clear F;go_wp2;refine As (v:=Af #[rm d (Aa fa j fc) (Aa oa on oc) (Aa y x rc) (Aa k h tc),Ad false]) ?_ rfl ⟨_,rfl,?_⟩
     ·simp[AI,Tryz.f94];go_simp
     ·exact EY n.o.1.bel (RB.o _ n.o.1.bel) (Bu _ _ _ _ _ _ _ _ _ _ _)
    | true =>
     have p:g=true:=by rw[<- HF.o,Ay (by omega),Ay F]
     have es:B={ st with refs:=jp st.refs nm i }:=by rw[FL.o.2 p];unfold St.take;rw[AC rfl];rw[show jf (4,body).2=i from H.o.2.2.1,Ay F,show iL (4,body).2=nm from H.o.2.1]
     subst p es;clear F;have ad:=Qa (c:=rc) st.refs nm i w6 (L.o.2.2.1.rd.below n.o.1.bel) L.o.2.2.1.len ac;rw[show tx nm=Ae G by rw[H.o.1],H.o.2.2.2]at ad;go_wp2_with fail;refine ad.mono ?_;rintro e w8 ⟨v8,rfl,R8⟩;obtain⟨a8,c8,e8,A⟩:=LG.ofOwn (Z:=Zx Z w) R8.o.1 (λ i q=>by have:=HZ.o i q;have:=n.o.1.size;omega)
     obtain⟨n8,J⟩:=Xa ((jp st.refs nm i).length)
     rw[J]at e8 A;subst e8
     have f:=I2 (n.o.1.below R8.o.2) A
     have f7:=f.o.1.box.thaw 7;have l0:=f.o.1.box.lt
     have ak:w.heap.size≠w.heap.size+2:=by omega
     clear ad A J R8 n0 n1;clear x0 x1 x2 x3 x4 x5 x6 x7 x8 y0 y1 z0 z1 z2 z3 z4 z5 z6 z7 z8 g0 g1 g2 U V X Y g7 g8 l2;obtain⟨x0,x1,x2,x3,x4,x5,x6,x7,x8⟩:=f.o.1.box.cells;obtain⟨y0,y1⟩:=f.o.1.fr.cells;obtain⟨z0,z1,z2,z3,z4,z5,z6,z7,z8⟩:=f.o.1.res.cells;have a:=f.o.1.res.thaw;have g0:=a 0;have g1:=a 1;have g2:=a 2;have U:=a 3;have V:=a 4;have X:=a 5;have Y:=a 6;have g7:=a 7;have g8:=a 8;have l2:=f.o.1.res.lt;clear a;go_wp2;refine As (v:=Af #[rm d (Aa fa j fc) (Aa oa on oc) (Aa a8 n8 c8) (Aa k h tc),Ad true]) ?_ rfl ⟨_,rfl,?_⟩
     ·simp[AI,Tryz.f94];go_simp
     ·exact JG f.o.1.bel (⟨fa,j,fc,oa,on,oc,a8,n8,c8,k,h,tc,rfl,L.o.1.below f.o.1.bel,L.o.2.1.below f.o.1.bel,f.o.2,L.o.2.2.2.below f.o.1.bel⟩) rfl (Bu _ _ _ _ _ _ _ _ _ _ _)
theorem dC{n r:Option Addr}{on p:Nat}(hZ:∀i,Z i->i<w.heap.size)(h1:LG iz Z w fa j fc d.files)(h2:LG iH Z w oa on oc st.objs)(h3:LG ix Z w n h rc st.refs)(h4:LG ix Z w r p tc st.tags)(ag:st.size<=1000000)(body:Bs)(aj:body.length<=1000000):
  At Am 94 #[rm d (Aa fa j fc) (Aa oa on oc) (Aa n h rc) (Aa r p tc),Ag #[Ab Ak 5,tx body]] w λ e w'=>∃m',e=Aj (Af #[m',Ad (st.fits (5,body))])/\Hid (jh Z w' m' (if st.fits (5,body)then st.take (5,body)else st) d/\Iz w w'):=by
 have hq:st.objs.length<=1000000/\st.refs.length<=1000000/\st.tags.length<=1000000:=by unfold St.size at ag;omega
 have ho:on<=1000000:=by rw[<- h2.len];exact hq.1
 have ak:h<=1000000:=by rw[<- h3.len];exact hq.2.1
 have ab:p<=1000000:=by rw[<- h4.len];exact hq.2.2
 obtain⟨s,hs⟩:∃s:ByteArray,s=⟨body.toArray⟩:=⟨_,rfl⟩
 have N:s.size=body.length:=by rw[hs];show body.toArray.size=_;simp
 obtain⟨g,hg⟩:=Xa (st.fits (5,body))
 obtain⟨B,k⟩:=Xa ((if st.fits (5,body)then st.take (5,body)else st))
 rw[k,hg,show tx body=Ae s by rw[hs]]
 obtain⟨W,hW⟩:=Xa (((w.alloc (iD d (Aa fa j fc) (Aa oa on oc) (Aa n h rc) (Aa r p tc))).alloc (Ai #[Ab Ak 5,Ae s] 194)).alloc (Ai #[Aa none 0 0,Ab Ak 0,Ad false,Ad false,Ab Ak 0,Ab Ak 0,Aa none 0 0,Aa none 0 0,Aa none 0 0] 34))
 have J:Hid (kG w W d (Aa fa j fc) (Aa oa on oc) (Aa n h rc) (Aa r p tc) 5 s):=by rw[<- hW];exact kG.new w d _ _ _ _ _ _
 have V:∀i,i<w.heap.size->Zx Z w i->Z i:=λ i hi q=>q.elim (λ q=>q) (λ q=>by omega)
 have L:=I4 (h1.into V) (h2.into V) (h3.into V) (h4.into V)
 have RB:Hid (∀W',Iz w W'->jh (Zx Z w) W' (rm d (Aa fa j fc) (Aa oa on oc) (Aa n h rc) (Aa r p tc)) st d):=λ W' b=>⟨fa,j,fc,oa,on,oc,n,h,rc,r,p,tc,rfl,L.o.1.below b,L.o.2.1.below b,L.o.2.2.1.below b,L.o.2.2.2.below b⟩
 have HZ:Hid (∀i,Zx Z w i->i<w.heap.size+3):=λ i q=>q.elim (λ q=>by have:=hZ i q;omega) (λ q=>q.2)
 have P:=I4 hs k hg N
 have am:¬9223372036854775807<s.size:=by omega
 have falls:g=false->B=st:=λ q=>by rw[<- P.o.2.1,P.o.2.2.1,q];rfl
 have y:g=true->B=st.take (5,body):=λ q=>by rw[<- P.o.2.1,P.o.2.2.1,q];rfl
 obtain⟨x0,x1,x2,x3,x4,x5,x6,x7,x8⟩:=J.o.box.cells;obtain⟨y0,y1⟩:=J.o.fr.cells;obtain⟨z0,z1,z2,z3,z4,z5,z6,z7,z8⟩:=J.o.res.cells;have a:=J.o.res.thaw;have g0:=a 0;have g1:=a 1;have g2:=a 2;have Y:=a 3;have g4:=a 4;have g5:=a 5;have g6:=a 6;have g7:=a 7;have g8:=a 8;have l2:=J.o.res.lt;clear a;have z:=P.o.2.2.1;unfold St.fits at z;rw[AC (by simp)]at z;simp only at z;by_cases h8:body.length<8
 ·have t8:(s.size:Int)<8:=by omega
  have ah:s.size<8:=by omega
  have x:g=false:=by rw[<- z,show decide (8<=body.length)=false by simp;omega];rfl
  have es:=falls x;subst x es;clear h1 h2 h3 h4 hq z hs hg k V falls y N;go_enter func94,ntmps94;go_wp2;refine As (v:=Af #[rm d (Aa fa j fc) (Aa oa on oc) (Aa n h rc) (Aa r p tc),Ad false]) ?_ rfl ⟨_,rfl,?_⟩
  ·simp[AI,Tryz.f94];go_simp
  ·exact EY J.o.bel (RB.o _ J.o.bel) (Bu _ _ _ _ _ _ _ _ _ _ _)
 have t8:¬(s.size:Int)<8:=by omega
 have ah:¬s.size<8:=by omega
 have an:8<=s.size:=by omega
 rw[show decide (8<=body.length)=true by simp;omega,Ci]at z
 obtain⟨nm,A⟩:=Xa (iL body)
 obtain⟨i,hi⟩:=Xa (jf body)
 rw[A,hi]at z
 obtain⟨H,af⟩:∃H:ByteArray,s.extract 8 s.size=H:=⟨_,rfl⟩
 obtain⟨U,ae⟩:∃U:ByteArray,s.extract 0 8=U:=⟨_,rfl⟩
 have D:H=⟨nm.toArray⟩:=by rw[<- af,Oi,P.o.1,<- A];rfl
 have K:U=⟨(body.take 8).toArray⟩:=by rw[<- ae,JT,P.o.1]
 have G:val U.data.toList=i.toNat:=by rw[K,<- hi];exact(Jn (l:=body.take 8) (by rw[AE];omega)).symm
 have E:U.size<=8:=by rw[K];show(body.take 8).toArray.size<=8;simp;omega
 have ai:H.size<=1000000:=by rw[D,<- A];show(iL body).toArray.size<=_;unfold iL;simp;omega
 have Q:H.data.toList=nm:=by rw[D]
 have f:=λ W'=>Hy H (by omega) W'
 rw[Q]at f
 have F:=λ W'=>Ip U E W'
 rw[G]at F
 obtain⟨xi,O⟩:∃xi:Int,(i.toNat:Int)=xi:=⟨_,rfl⟩
 rw[O]at F
 have X:=I4 D A hi O
 cases e1:gS nm with
 | false =>
  replace f:=f W
  rw[e1]at f
  have x:g=false:=by rw[<- z,e1];rfl
  have es:=falls x;subst x es;clear h1 h2 h3 h4 hq z hs hg k V falls y F N D K G E Q A hi O;go_enter func94,ntmps94;go_wp2_with fail;refine f.mono ?_;rintro e w1 ⟨rfl,m⟩;rw[m];clear m w1;go_wp2;refine As (v:=Af #[rm d (Aa fa j fc) (Aa oa on oc) (Aa n h rc) (Aa r p tc),Ad false]) ?_ rfl ⟨_,rfl,?_⟩
  ·simp[AI,Tryz.f94];go_simp
  ·exact EY J.o.bel (RB.o _ J.o.bel) (Bu _ _ _ _ _ _ _ _ _ _ _)
 | true =>
  replace f:=f W
  rw[e1]at f;rw[e1,Ci]at z;clear h1 h2 h3 h4 hs hg k V N D K G E Q A hi O;go_enter func94,ntmps94;go_wp2_with fail;refine f.mono ?_;rintro e w1 ⟨rfl,m⟩;rw[m];clear m w1
  go_upto_region 4 with fail
  have ad:=Ih F;clear F;go_cut[6] (λ cv u=>cv=Ah (some ⟨W.heap.size,0,none⟩)/\Hid (kG w u d (Aa fa j fc) (Aa oa on oc) (Aa n h rc) (Aa r p tc) 5 s/\jo u W.heap.size 271 (Ae H) (Ab Al xi)))
  case first =>
   go_region_held3 (λ u=>u.cell? ⟨w.heap.size+1,0,none⟩=some (Ab Ak 5)/\u.cell? ⟨w.heap.size+1,1,none⟩=some (Ae s)) (go_keep)
    (first|(go_at_call 33;refine(ad.o _).mono ?_;rintro e w1 ⟨rfl,m⟩;rw[m];clear m w1))
   all_goals
    go_wp2_with fail;go_meet;exact⟨rfl,PX J.o _ _ _⟩
  case rest =>
   obtain⟨rfl,I⟩:=hcut;clear x0 x1 x2 x3 x4 x5 x6 x7 x8 y0 y1 z0 z1 z2 z3 z4 z5 z6 z7 z8 g0 g1 g2 Y g4 g5 g6 g7 g8 l2;obtain⟨x0,x1,x2,x3,x4,x5,x6,x7,x8⟩:=I.o.1.box.cells;obtain⟨y0,y1⟩:=I.o.1.fr.cells;obtain⟨z0,z1,z2,z3,z4,z5,z6,z7,z8⟩:=I.o.1.res.cells;have a:=I.o.1.res.thaw;have g0:=a 0;have g1:=a 1;have g2:=a 2;have Y:=a 3;have g4:=a 4;have g5:=a 5;have g6:=a 6;have g7:=a 7;have g8:=a 8;have l2:=I.o.1.res.lt;clear a;obtain⟨n0,n1⟩:=I.o.2.cells
   obtain⟨q,M⟩:=Xa (st.has 3 i)
   have hh:=Ij (d:=d) (oc:=oc) (vf:=Aa fa j fc) (vr:=Aa n h rc) (vt:=Aa r p tc) (L.o.2.1.rd.below I.o.1.bel) L.o.2.1.len ho 3 i q M;rw[X.o.2.2.2]at hh;rw[M]at z;have HF:Hid _:=z
   have FL:=I2 falls y
   have HQ:=Ih M;clear z falls y M hq;go_wp2_with fail;refine hh.mono ?_;rintro e w6 ⟨rfl,B6⟩
   have t:=I2 (I.o.1.below B6) (I.o.2.below B6)
   clear hh B6 I n0 n1;clear x0 x1 x2 x3 x4 x5 x6 x7 x8 y0 y1 z0 z1 z2 z3 z4 z5 z6 z7 z8 g0 g1 g2 Y g4 g5 g6 g7 g8 l2;obtain⟨x0,x1,x2,x3,x4,x5,x6,x7,x8⟩:=t.o.1.box.cells;obtain⟨y0,y1⟩:=t.o.1.fr.cells;obtain⟨z0,z1,z2,z3,z4,z5,z6,z7,z8⟩:=t.o.1.res.cells;have a:=t.o.1.res.thaw;have g0:=a 0;have g1:=a 1;have g2:=a 2;have Y:=a 3;have g4:=a 4;have g5:=a 5;have g6:=a 6;have g7:=a 7;have g8:=a 8;have l2:=t.o.1.res.lt;clear a;obtain⟨n0,n1⟩:=t.o.2.cells
   cases q with
   | false =>
    have x:g=false:=by rw[<- HF.o];simp
    have es:=FL.o.1 x;subst x es;go_wp2;refine As (v:=Af #[rm d (Aa fa j fc) (Aa oa on oc) (Aa n h rc) (Aa r p tc),Ad false]) ?_ rfl ⟨_,rfl,?_⟩
    ·simp[AI,Tryz.f94];go_simp
    ·exact EY t.o.1.bel (RB.o _ t.o.1.bel) (Bu _ _ _ _ _ _ _ _ _ _ _)
   | true =>
    have R:=LF (c:=tc) st.tags nm w6 (L.o.2.2.2.rd.below t.o.1.bel) L.o.2.2.2.len ab;rw[show tx nm=Ae H by rw[X.o.1]]at R;go_wp2_with fail;refine R.mono ?_;rintro e w7 ⟨r7,rfl,R7,ac⟩;rw[ac];clear ac w7 R
    rcases R7.o with⟨q1,q2⟩ | ⟨q1,i7,q2⟩
    ·subst q2
     have x:g=true:=by rw[<- HF.o];simp[q1]
     have es:B={ st with tags:=jp st.tags nm i }:=by rw[FL.o.2 x];unfold St.take;rw[Ay (by show ¬(5:Int)=4;omega),AC rfl];rw[show jf (5,body).2=i from X.o.2.2.1,show iL (5,body).2=nm from X.o.2.1]
     subst x es;clear q1;have S:=Qa (c:=tc) st.tags nm i w6 (L.o.2.2.2.rd.below t.o.1.bel) L.o.2.2.2.len ab;rw[show tx nm=Ae H by rw[X.o.1],X.o.2.2.2]at S;go_wp2_with fail;refine S.mono ?_;rintro e w8 ⟨v8,rfl,R8⟩;obtain⟨a8,c8,e8,T⟩:=LG.ofOwn (Z:=Zx Z w) R8.o.1 (λ i q=>by have:=HZ.o i q;have:=t.o.1.size;omega)
     obtain⟨n8,aa⟩:=Xa ((jp st.tags nm i).length)
     rw[aa]at e8 T;subst e8
     have C:=I2 (t.o.1.below R8.o.2) T
     have f7:=C.o.1.box.thaw 8;have l0:=C.o.1.box.lt
     have al:w.heap.size≠w.heap.size+2:=by omega
     clear S T aa R8 n0 n1;clear x0 x1 x2 x3 x4 x5 x6 x7 x8 y0 y1 z0 z1 z2 z3 z4 z5 z6 z7 z8 g0 g1 g2 Y g4 g5 g6 g7 g8 l2;obtain⟨x0,x1,x2,x3,x4,x5,x6,x7,x8⟩:=C.o.1.box.cells;obtain⟨y0,y1⟩:=C.o.1.fr.cells;obtain⟨z0,z1,z2,z3,z4,z5,z6,z7,z8⟩:=C.o.1.res.cells;have a:=C.o.1.res.thaw;have g0:=a 0;have g1:=a 1;have g2:=a 2;have Y:=a 3;have g4:=a 4;have g5:=a 5;have g6:=a 6;have g7:=a 7;have g8:=a 8;have l2:=C.o.1.res.lt;clear a;go_wp2;refine As (v:=Af #[rm d (Aa fa j fc) (Aa oa on oc) (Aa n h rc) (Aa a8 n8 c8),Ad true]) ?_ rfl ⟨_,rfl,?_⟩
     ·simp[AI,Tryz.f94];go_simp
     ·exact JG C.o.1.bel (⟨fa,j,fc,oa,on,oc,n,h,rc,a8,n8,c8,rfl,L.o.1.below C.o.1.bel,L.o.2.1.below C.o.1.bel,L.o.2.2.1.below C.o.1.bel,C.o.2⟩) rfl (Bu _ _ _ _ _ _ _ _ _ _ _)
    ·subst q2
     have p7:(0:Int)<=(i7:Int):=by omega
     have x:g=false:=by rw[<- HF.o];simp[q1]
     have es:=FL.o.1 x;subst x es;clear q1;go_wp2;refine As (v:=Af #[rm d (Aa fa j fc) (Aa oa on oc) (Aa n h rc) (Aa r p tc),Ad false]) ?_ rfl ⟨_,rfl,?_⟩
     ·simp[AI,Tryz.f94];go_simp
     ·exact EY t.o.1.bel (RB.o _ t.o.1.bel) (Bu _ _ _ _ _ _ _ _ _ _ _)
end Go.Proofs.YtakgkgmopmcecaaGreat
