import Derived.Test.YtakgkgmopmcecaaGreatM18
import Derived.Calls
set_option maxHeartbeats 6400000
set_option maxRecDepth 100000
open ByteArray renaming ext->Dl,getElem_eq_getElem_data->Cw,size_extract->BH
open Go renaming World->Ap,Calls->At,wpQuiet_nil->AS,maxLen->AH,Value->Ar,bodyPost_ret->As,results->AI,convert->Cx,YieldsIf->D1,wpAnyH->Gl,yielded->Co,undef->FG,TypeId->AP,execOp->CP,callFunc->Ck,wp_region_held_drew->Gs,wpAnyH_ready->El
open Go.RowKit renaming Below->An
open Go.IntKind renaming u64->Al,wrap_u64->A5,i64->Ak,wrap_i64->Au
open List renaming length_append->Ax,length_take->AE,append_assoc->AT,take_of_length_le->Av,drop_drop->Be,drop_take->Hr,take_take->F4,take_zero->FY,length_drop->AO,length_nil->Cj,contains_iff_mem->C7,all_map->Hz
open Go.RowKit.Below renaming refl->Ao
open Go.Value renaming string->Ae,int->Ab,slice->Aa,bool->Ad,tuple->Af
open Go.Act renaming eval->Bc,put->DO
open UInt64 renaming ofNat->AL,toNat_ofNat'->Cf
open Nat renaming mod_eq_of_lt->CR,reduceEqDiff->Hg
open Go.Region renaming Mode->F6,noSelect->GX,free->Hs,ready->Hk,wanted->Bd
open Array renaming size_setIfInBounds->Gc,getElem?_setIfInBounds_ne->D8
open Option renaming getD_some->Fw,bind_some->C3
open Go.AllReadyH renaming cons->D3,nil->Ef
open Go.Ending renaming returned->Aj
open Go.Proofs.Tryz renaming prog->Am
open Go.Proofs.Tryz
namespace Go.Proofs.YtakgkgmopmcecaaGreat
open Go.RowKit
variable {A A0 a:Act}{K:Act->Ap->Prop}{L:List (Nat×Ar)}{M:List Nat}{N d fuel g i j kc kn l n pm:Nat}{P:Program}{Q:Exit->Act->Ap->Prop}{W w:Ap}{b:Bool}{bs:Bs}{e:F6}{k:IntKind}{m pn:Int}{ops:Array Oper}{s:AP}{v v0:Ar}
theorem IH(a b:Bs):(⟨a.toArray⟩:ByteArray)++⟨b.toArray⟩=⟨(a++b).toArray⟩:=by
 apply Dl;simp
theorem Jc(a:Bs):(⟨a.toArray⟩:ByteArray).size=a.length:=by
 show a.toArray.size=_;simp
theorem K3(z:Int):wu z<18446744073709551616:=by
 unfold wu;omega
theorem ID(k n:Nat):(⟨(low k n).toArray⟩:ByteArray).size=k:=by rw[Jc,Bp]
theorem Zf{ra:Option Addr}{rc:Nat}{rs:List Rw}(c:Int)(hR:lj w ra rs)(hn:rs.length=g)(aO:g<=1000000)(hT:∀i,((rs.take i).flatMap iJ).length<=1000000000000)(I:Nat)(ah:ls (km c rs)=I):
  At Am 10 #[Ab Ak c,Aa ra g rc] w λ e w'=>e=Aj (tx (km c rs++low 4 I))/\An w.heap.size w w':=by
 obtain⟨vs,ay,aC,hV⟩:=hR
 obtain⟨G,ae⟩:=Xa (km c rs)
 rw[ae]at ah ⊢
 have H:Hid (gQ im w ra vs/\vs.length=g/\rs.length=g/\(∀(i:Nat) (v:RV) (r:Rw),vs[i]? = some v->rs[i]? = some r->nQ w v r)/\(∀i,((rs.take i).flatMap iJ).length<=1000000000000)/\ls G=I/\km c rs=G):=⟨ay,aC.trans hn,hn,hV,hT,ah,ae⟩
 have d1:=Jf c
 have d2:Al.wrap (g:Int)=(g:Int):=by rw[A5];omega
 obtain⟨z4,R⟩:∃z4:ByteArray,z4=⟨(low 4 (wu c)).toArray⟩:=⟨_,rfl⟩
 obtain⟨y4,Q⟩:∃y4:ByteArray,y4=⟨(low 4 g).toArray⟩:=⟨_,rfl⟩
 have h1:=Ig (wu c) 4 (K3 _) (by decide) w;rw[show tx (low 4 (wu c))=Ae z4 by rw[R]]at h1
 have h2:∀u,At Am 26 #[Ab Al (g:Int),Ab Ak 4] u λ e w'=>e=Aj (Ae y4)/\An u.heap.size u w':=λ u=>by
  rw[Q];exact Ig g 4 (by omega) (by decide) u
 obtain⟨n,N⟩:∃n:Bs,[70,66,76,49]++low 4 (wu c)++low 4 g=n:=⟨_,rfl⟩
 obtain⟨m4,ak⟩:∃m4:ByteArray,m4=⟨#[70,66,76,49]⟩:=⟨_,rfl⟩
 have l4:z4.size=4:=by rw[R];exact ID _ _
 have k4:y4.size=4:=by rw[Q];exact ID _ _
 have j4:m4.size=4:=by rw[ak];rfl
 have a0:¬(9223372036854775807<4+z4.size):=by omega
 have a1:¬(9223372036854775807<m4.size+z4.size):=by omega
 have a2:¬(9223372036854775807<(m4++z4).size+y4.size):=by rw[Fi];omega
 have EH:Hid (m4++z4++y4=⟨n.toArray⟩/\n.length=12/\[70,66,76,49]++low 4 (wu c)++low 4 g=n):=by
  refine⟨?_,by rw[<- N];simp[Bp],N⟩;rw[ak,R,Q,<- N];apply Dl;simp
 subst ak;clear ay aC hV hn hT ah ae R Q N l4 k4 j4;go_enter func10,ntmps10;go_wp2_with fail;refine h1.mono ?_;rintro e w1 ⟨rfl,b1⟩;clear h1;go_wp2_with fail;refine(h2 w1).mono ?_;rintro e w2 ⟨rfl,b2⟩;have B2:Hid (An w.heap.size w w2):=b1.trans (b2.mono b1.size);clear h2 b1 b2
 go_upto_region 3 with fail
 obtain⟨s0,az⟩:∃s0:ByteArray,(⟨#[70,66,76,49]⟩:ByteArray)++z4++y4=s0:=⟨_,rfl⟩
 rw[az]at EH ⊢;clear az a0 a1 a2;go_loopg[5,6,7,8] g (λ m sv iv _ _ wr=>∃(i:Nat) (s:ByteArray),iv=Ab Ak i/\i+m=g/\sv=Ae s/\Hid (s=⟨(n++(rs.take i).flatMap iJ).toArray⟩/\An w.heap.size w wr))
 case atStart=>exact⟨0,s0,rfl,by omega,rfl,by rw[EH.o.1];simp,B2.o⟩
 case round =>
  obtain⟨i,s,rfl,hi,rfl,K⟩:=hrel;clear B2;by_cases aq:i<g
  ·have id:(i:Int)<(g:Int):=by omega
   have aP:(0:Int)<=(i:Int):=by omega
   obtain⟨gO,ap⟩:=Xb gk
   have GO:Hid (gO=gk/\i+gO=g):=⟨ap,by omega⟩
   clear ap;obtain⟨y,hy⟩:=BK H.o.2.1 aq;obtain⟨x,hx⟩:=BK H.o.2.2.1 aq;obtain⟨rb,ro,rfl,_⟩:=H.o.1.some_of hy;have h:=H.o.2.2.2.1 i y x hy hx;obtain⟨rid,b,a,pa,pn,pc,rgen,l⟩:=y;have e1:rid=x.id:=h.id;have e2:b=x.tree:=h.tree;have e3:a=x.date:=h.date;have e4:rgen=x.gen:=h.gen;have e5:l=x.fb:=h.fb;have e6:x.ps.length=pn:=h.len;have ax:gQ encI w pa x.ps:=h.ps
   obtain⟨f,B⟩:∃f:ByteArray,f=⟨l.toArray⟩:=⟨_,rfl⟩
   obtain⟨c0,c1,c2,c3,c4,c5⟩:=(H.o.1.below K.o.2).rrows hy;simp only at c0 c1 c2 c3 c4 c5;rw[show tx l=Ae f by rw[B]]at c5;have av:=H.o.2.2.2.2.1 i;have aw:=H.o.2.2.2.2.1 (i+1)
   have ai:(rs.take (i+1)).flatMap iJ=(rs.take i).flatMap iJ++iJ x:=by
    rw[List.take_add_one,hx,List.flatMap_append];simp
   have aK:(iJ x).length<=1000000000000:=by rw[ai,Ax]at aw;omega
   have C:pn<=1000000000000/\f.size<=1000000000000:=by
    have e:(iJ x).length=28+4*pn+f.size:=by
     unfold iJ;simp only[Ax,Bp,Jj,e6,B,Jc,e5];omega
    omega
   have an:iJ x=low 8 rid.toNat++low 8 b.toNat++low 8 (wu a)++low 1 pn++lJ x.ps++low 1 (wu rgen)++low 2 f.size++l:=by
    unfold iJ;rw[e1,e2,e3,e4,e6,B,Jc,e5]
   have L:Hid (gQ encI w pa x.ps/\x.ps.length=pn/\(rs.take (i+1)).flatMap iJ=(rs.take i).flatMap iJ++iJ x/\iJ x=low 8 rid.toNat++low 8 b.toNat++low 8 (wu a)++low 1 pn++lJ x.ps++low 1 (wu rgen)++low 2 f.size++l/\f=⟨l.toArray⟩/\((rs.take i).flatMap iJ).length<=1000000000000):=⟨ax,e6,ai,an,B,av⟩
   have aN:pn<=1000000000000:=C.1;have aM:f.size<=1000000000000:=C.2
   obtain⟨d,ad⟩:=Xb (wr.alloc (.cells #[Ab Al (rid.toNat:Int),Ab Al (b.toNat:Int),Ab Ak a,Aa pa pn pc,Ab Ak rgen,Ae f] 83))
   obtain⟨Z,hZ⟩:=Xa wr.heap.size
   have z:Hid (gT d Z 83 #[Ab Al (rid.toNat:Int),Ab Al (b.toNat:Int),Ab Ak a,Aa pa pn pc,Ab Ak rgen,Ae f]/\An w.heap.size w d):=by
    rw[ad,<- hZ];exact⟨gT.new _ _ _,K.o.2.trans ((gW wr _).mono K.o.2.size)⟩
   have HS:Hid (s=⟨(n++(rs.take i).flatMap iJ).toArray⟩):=K.o.1
   have aL:s.size<=2000000000000:=by rw[HS.o,Jc,Ax];have:=EH.o.2.1;omega
   clear hx hy h e1 e2 e3 e4 e5 e6 ax B av aw ai aK C an K
   go_upto_region 6 with fail
   rw[<- ad];clear ad hZ c0 c1 c2 c3 c4 c5;have dd:=Jf a;have dg:=Jf rgen
   have dp:Al.wrap (pn:Int)=(pn:Int):=by rw[A5];omega
   have df:Al.wrap (f.size:Int)=(f.size:Int):=by rw[A5];omega
   obtain⟨E,T⟩:∃E:ByteArray,E=⟨(low 8 rid.toNat).toArray⟩:=⟨_,rfl⟩
   obtain⟨J,U⟩:∃J:ByteArray,J=⟨(low 8 b.toNat).toArray⟩:=⟨_,rfl⟩
   obtain⟨zc,V⟩:∃zc:ByteArray,zc=⟨(low 8 (wu a)).toArray⟩:=⟨_,rfl⟩
   obtain⟨zp,aa⟩:∃zp:ByteArray,zp=⟨(low 1 pn).toArray⟩:=⟨_,rfl⟩
   have la:E.size=8:=by rw[T];exact ID _ _
   have lb:J.size=8:=by rw[U];exact ID _ _
   have lc:zc.size=8:=by rw[V];exact ID _ _
   have lp:zp.size=1:=by rw[aa];exact ID _ _
   have NE:Nonempty (SW (gN d)):=⟨⟨d,Ao _ _⟩⟩
   have M:∀u:SW (gN d),gT u.w Z 83 #[Ab Al (rid.toNat:Int),Ab Al (b.toNat:Int),Ab Ak a,Aa pa pn pc,Ab Ak rgen,Ae f]:=λ u=>z.o.1.below u.ok z.o.1.lt
   have k0:∀u:SW (gN d),u.w.cell? ⟨Z,0,none⟩=some (Ab Al (rid.toNat:Int)):=λ u=>(M u).cell (j:=0) rfl
   have k1:∀u:SW (gN d),u.w.cell? ⟨Z,1,none⟩=some (Ab Al (b.toNat:Int)):=λ u=>(M u).cell (j:=1) rfl
   have k2:∀u:SW (gN d),u.w.cell? ⟨Z,2,none⟩=some (Ab Ak a):=λ u=>(M u).cell (j:=2) rfl
   have k3:∀u:SW (gN d),u.w.cell? ⟨Z,3,none⟩=some (Aa pa pn pc):=λ u=>(M u).cell (j:=3) rfl
   have na:∀u:SW (gN d),At Am 26 #[Ab Al (rid.toNat:Int),Ab Ak 8] u.w λ e w'=>e=Aj (Ae E)/\∃u':SW (gN d),w'=u'.w:=Ia rid.toNat 8 rid.toNat_lt (by omega) E T d
   have nb:∀u:SW (gN d),At Am 26 #[Ab Al (b.toNat:Int),Ab Ak 8] u.w λ e w'=>e=Aj (Ae J)/\∃u':SW (gN d),w'=u'.w:=Ia b.toNat 8 b.toNat_lt (by omega) J U d
   have nc:∀u:SW (gN d),At Am 26 #[Ab Al (wu a:Int),Ab Ak 8] u.w λ e w'=>e=Aj (Ae zc)/\∃u':SW (gN d),w'=u'.w:=Ia (wu a) 8 (K3 _) (by omega) zc V d
   have np:∀u:SW (gN d),At Am 26 #[Ab Al (pn:Int),Ab Ak 1] u.w λ e w'=>e=Aj (Ae zp)/\∃u':SW (gN d),w'=u'.w:=Ia pn 1 (by omega) (by omega) zp aa d
   have a1:¬(9223372036854775807<s.size+E.size):=by omega
   have a2:¬(9223372036854775807<(s++E).size+J.size):=by rw[Fi];omega
   have a3:¬(9223372036854775807<(s++E++J).size+zc.size):=by rw[Fi,Fi];omega
   have a4:¬(9223372036854775807<(s++E++J++zc).size+zp.size):=by rw[Fi,Fi,Fi];omega
   obtain⟨PB,O⟩:∃PB:Bs,n++(rs.take i).flatMap iJ++low 8 rid.toNat++low 8 b.toNat++low 8 (wu a)++low 1 pn=PB:=⟨_,rfl⟩
   obtain⟨t1,al⟩:∃t1:ByteArray,s++E++J++zc++zp=t1:=⟨_,rfl⟩
   have ac:Hid (t1=⟨PB.toArray⟩/\PB.length<=2000000000000/\n++(rs.take i).flatMap iJ++low 8 rid.toNat++low 8 b.toNat++low 8 (wu a)++low 1 pn=PB):=by
    refine⟨?_,?_,O⟩
    ·rw[<- al,HS.o,T,U,V,aa,IH,IH,IH,IH,O]
    ·rw[<- O];simp only[Ax,Bp];have:=EH.o.2.1;have:=L.o.2.2.2.2.2;omega
   have HT:Hid (s++E++J++zc++zp=t1):=al;clear M T U V aa la lb lc lp O al aL;refine Bb (S:=gN d) (by kernel_rfl) (by kernel_rfl) (Ao _ d).drew ?_
   repeat(go_big_quiet_step (first | with_reducible exact na _ | with_reducible exact nb _ | with_reducible exact nc _ | with_reducible exact np _))
   refine AS ?_;intro _ am;obtain⟨u,D⟩:=am;subst D;have N2:Hid (An d.heap.size d u.w):=u.ok
   obtain⟨w3,aD⟩:=Xb u.w
   rw[<- aD]at N2 ⊢;rw[HT.o];clear aD k0 k1 k2 k3 na nb nc np a1 a2 a3 a4 NE u HT;go_wp2_with fail;go_loopg[5,8] pn (λ m sv kv u=>∃(k:Nat) (t:ByteArray),kv=Ab Ak k/\k+m=pn/\sv=Ae t/\Hid (t=⟨(PB++lJ (x.ps.take k)).toArray⟩/\An d.heap.size d u))
   case atStart=>exact⟨0,t1,rfl,by omega,rfl,by rw[ac.o.1];simp[lJ],N2.o⟩
   case round =>
    obtain⟨k,t,rfl,hk,rfl,F⟩:=hrel;clear N2;have y3:=(z.o.1.below F.o.2 z.o.1.lt).cell (j:=3) rfl
    have aB:t.size<=7000000000000:=by
     rw[F.o.1,Jc,Ax,Jj,AE];have:=ac.o.2.1;omega
    by_cases au:k<pn
    ·have kd:(k:Int)<(pn:Int):=by omega
     have aQ:(0:Int)<=(k:Int):=by omega
     obtain⟨p,hp⟩:=BK L.o.2.1 au;obtain⟨pb,po,rfl,_⟩:=L.o.1.some_of hp;have cp:=((L.o.1.below z.o.2).below F.o.2).ints hp;have dw:=Jf p
     obtain⟨zq,ab⟩:∃zq:ByteArray,zq=⟨(low 4 (wu p)).toArray⟩:=⟨_,rfl⟩
     have q:At Am 26 #[Ab Al (wu p:Int),Ab Ak 4] wr λ e w'=>e=Aj (Ae zq)/\An wr.heap.size wr w':=by
      rw[ab];exact Ig (wu p) 4 (K3 _) (by omega) wr
     have lq:zq.size=4:=by rw[ab];exact ID _ _
     have a1:¬(9223372036854775807<t.size+zq.size):=by omega
     have HQ:Hid (t++zq=⟨(PB++lJ (x.ps.take (k+1))).toArray⟩):=by
      have ar:k<x.ps.length:=by rw[L.o.2.1];exact au
      have e:x.ps[k]=p:=by rw[List.getElem?_eq_getElem ar]at hp;exact Option.some.inj hp
      show _=_;rw[F.o.1,ab,IH,Rx ar,e,AT]
     clear hp ab lq aB;go_wp2_with fail;refine q.mono ?_;rintro e w4 ⟨rfl,A⟩;have B4:Hid (An d.heap.size d w4):=F.o.2.trans (A.mono F.o.2.size);clear A q cp y3;go_wp2;go_roundg (gk - 1)
     case measure=>omega
     case rel=>exact⟨k+1,_,by go_num,by omega,rfl,HQ.o,B4.o⟩
    ·have kd:¬(k:Int)<(pn:Int):=by omega
     have aA:x.ps.take k=x.ps:=Av (by rw[L.o.2.1];omega)
     obtain⟨zg,X⟩:∃zg:ByteArray,zg=⟨(low 1 (wu rgen)).toArray⟩:=⟨_,rfl⟩
     obtain⟨zf,W⟩:∃zf:ByteArray,zf=⟨(low 2 f.size).toArray⟩:=⟨_,rfl⟩
     have lg:zg.size=1:=by rw[X];exact ID _ _
     have lf:zf.size=2:=by rw[W];exact ID _ _
     have NE:Nonempty (SW (gN wr)):=⟨⟨wr,Ao _ _⟩⟩
     have M:∀u:SW (gN wr),gT u.w Z 83 #[Ab Al (rid.toNat:Int),Ab Al (b.toNat:Int),Ab Ak a,Aa pa pn pc,Ab Ak rgen,Ae f]:=λ u=>(z.o.1.below F.o.2 z.o.1.lt).below u.ok (z.o.1.below F.o.2 z.o.1.lt).lt
     have k4:∀u:SW (gN wr),u.w.cell? ⟨Z,4,none⟩=some (Ab Ak rgen):=λ u=>(M u).cell (j:=4) rfl
     have k5:∀u:SW (gN wr),u.w.cell? ⟨Z,5,none⟩=some (Ae f):=λ u=>(M u).cell (j:=5) rfl
     have ng:∀u:SW (gN wr),At Am 26 #[Ab Al (wu rgen:Int),Ab Ak 1] u.w λ e w'=>e=Aj (Ae zg)/\∃u':SW (gN wr),w'=u'.w:=Ia (wu rgen) 1 (K3 _) (by omega) zg X wr
     have nf:∀u:SW (gN wr),At Am 26 #[Ab Al (f.size:Int),Ab Ak 2] u.w λ e w'=>e=Aj (Ae zf)/\∃u':SW (gN wr),w'=u'.w:=Ia f.size 2 (by omega) (by omega) zf W wr
     have a1:¬(9223372036854775807<t.size+zg.size):=by omega
     have a2:¬(9223372036854775807<(t++zg).size+zf.size):=by rw[Fi];omega
     have a3:¬(9223372036854775807<(t++zg++zf).size+f.size):=by rw[Fi,Fi];omega
     have HE:Hid (t++zg++zf++f=⟨(n++(rs.take (i+1)).flatMap iJ).toArray⟩/\An w.heap.size w wr):=by
      refine⟨?_,z.o.2.trans (F.o.2.mono z.o.2.size)⟩;have e:=L.o.2.2.2.2.1;rw[F.o.1,aA,X,W,L.o.2.2.1,L.o.2.2.2.1,<- ac.o.2.2];rw[show(⟨(n++(rs.take i).flatMap iJ++low 8 rid.toNat++low 8 b.toNat++low 8 (wu a)++low 1 pn++lJ x.ps).toArray⟩:ByteArray)++⟨(low 1 (wu rgen)).toArray⟩++⟨(low 2 f.size).toArray⟩++f=⟨(n++(rs.take i).flatMap iJ++low 8 rid.toNat++low 8 b.toNat++low 8 (wu a)++low 1 pn++lJ x.ps).toArray⟩++⟨(low 1 (wu rgen)).toArray⟩++⟨(low 2 f.size).toArray⟩++⟨l.toArray⟩ by rw[<- e],IH,IH,IH];simp only[AT]
     clear M X W lg lf aB aA
     go_upto_region 11 with fail
     clear y3;refine Bb (S:=gN wr) (by kernel_rfl) (by kernel_rfl) (Ao _ wr).drew ?_
     repeat(go_big_quiet_step (first | with_reducible exact ng _ | with_reducible exact nf _))
     refine AS ?_;intro _ am;obtain⟨u,D⟩:=am;subst D;have N4:Hid (An w.heap.size w u.w):=HE.o.2.trans (u.ok.mono HE.o.2.size)
     obtain⟨w5,aE⟩:=Xb u.w
     rw[<- aE]at N4 ⊢;clear aE k4 k5 ng nf NE u a1 a2 a3;go_wp2;go_roundg (gO - 1)
     case measure=>have:=GO.o;omega
     case rel=>exact⟨i+1,_,by go_num,by have:=GO.o;omega,rfl,HE.o.1,N4.o⟩
  ·have aJ:i=g:=by omega
   have id:¬(i:Int)<(g:Int):=by omega
   have aj:G=n++rs.flatMap iJ:=by
    rw[<- H.o.2.2.2.2.2.2];unfold km;rw[H.o.2.2.1,EH.o.2.2]
   have P:s=⟨G.toArray⟩:=by
    rw[K.o.1,aj,Av (by rw[H.o.2.2.1];omega)]
   have aH:G.length<=2000000000000:=by
    have:=H.o.2.2.2.2.1 g;rw[Av (by rw[H.o.2.2.1];omega)]at this;rw[aj,Ax];have:=EH.o.2.1;omega
   obtain⟨bn,af⟩:=Xa G.length
   obtain⟨W4,c4,ao,b4,_,R4⟩:=Hm wr G;rw[af,show tx G=Ae s by rw[P]]at ao
   have A:iE W4 (Aa (some ⟨wr.heap.size,0,none⟩) bn c4) G:=by
    have:=R4.1.at R4.2.1 (R4.2.2 (by simp only[AH];omega));rw[af]at this;exact this
   have ag:=Km W4 A;rw[H.o.2.2.2.2.2.1]at ag
   have aI:I<4294967296:=by rw[<- H.o.2.2.2.2.2.1];exact IF _
   have d5:Al.wrap (I:Int)=(I:Int):=by rw[A5];omega
   obtain⟨zk,Y⟩:∃zk:ByteArray,zk=⟨(low 4 I).toArray⟩:=⟨_,rfl⟩
   have q:=Ig I 4 (by omega) (by omega) W4;rw[show tx (low 4 I)=Ae zk by rw[Y]]at q
   have a1:¬(9223372036854775807<s.size+zk.size):=by
    rw[P,Jc,Y,ID];omega
   have HE:Hid (Ae (s++zk)=tx (G++low 4 I)/\An w.heap.size w W4):=by
    refine⟨?_,K.o.2.trans (b4.mono K.o.2.size)⟩;show Ae _=Ae _;rw[P,Y,IH]
   clear K aJ aj P aH af b4 R4 A aI Y;go_wp2_with fail;refine ag.mono ?_;rintro e w6 ⟨rfl,aF⟩;rw[aF];clear ag aF ao;go_wp2_with fail;refine q.mono ?_;rintro e w7 ⟨rfl,b7⟩;have aG:Hid (An w.heap.size w w7):=HE.o.2.trans (b7.mono HE.o.2.size);clear q b7;go_wp2;go_ret;exact⟨by rw[<- HE.o.1];rfl,aG.o⟩
structure DR(w:Ap)(u:Ap)(rv:Ar)(vs:List RV)(R:List Rw):Prop where
 own:gM im 83 u w.heap.size rv vs
 rv:jc u w.heap.size vs R
 bel:An w.heap.size w u
theorem Pu{X:Bs}{s:ByteArray}{e a o:Nat}(b:s=⟨bs.toArray⟩)(d:bs.take e=X)(g:a+o=j/\j<e)(h:j<s.size):s[j].toNat=val (((X.drop a).drop o).take 1):=by
 subst d
 have f:j<bs.length:=by rw[b,Jc]at h;exact h
 have c:s[j]=bs[j]:=by subst b;simp[Cw]
 rw[c,Be,g.1,Hr,F4];rw[show min 1 (e - j)=1 by omega,List.drop_eq_getElem_cons f,List.take_succ_cons,FY];simp[val]
theorem oF{l:Bs}(h:l.length<=2):val l<65536:=Nat.lt_of_lt_of_le (IP l) (Nat.pow_le_pow_right (n:=256) (by decide) h:256 ^ l.length<=256 ^ 2)
theorem Kk{s:ByteArray}(a:s=⟨bs.toArray⟩)(i j:Nat):(s.extract i j).data.toList=(bs.drop i).take (j - i):=by
 rw[a,Ie]
theorem Ok{e:Nat}(h:i+j<=e):(bs.drop i).take j=((bs.take e).drop i).take j:=by
 rw[Hr,F4]
 congr 1
 omega
theorem ZX{s:ByteArray}(hs:s=⟨bs.toArray⟩)(hl:bs.length=n)(hn:n<=100000000000):
  At Am 14 #[Ae s] w λ e w'=>∃v,e=Aj (Af #[Ab Ak (jg bs).1,v,Ab Ak (jg bs).2.2])/\Hid ((∃vs,gM im 83 w' w.heap.size v vs/\jc w' w.heap.size vs (jg bs).2.1)/\An w.heap.size w w'):=by
 have hz:s.size=n:=by rw[hs,Jc];exact hl
 by_cases cj:n<16
 ·have hp:jg bs=(0,[],9):=by unfold jg;rw[AC (by omega)]
  rw[hp]
  have q:(n:Int)<16:=by omega
  clear hs hl hp;go_enter func14,ntmps14;go_wp2;refine As (v:=Af #[Ab Ak 0,Aa none 0 0,Ab Ak 9]) ?_ rfl ?_
  ·simp[AI,Tryz.f14]
  ·exact⟨_,rfl,⟨[],gM.nil _ _ _ _,jc.nil _ _⟩,Ao _ _⟩
 obtain⟨a,aF⟩:=Xa (n - 4)
 have cD:¬(n:Int)<16:=by omega
 have cE:(n:Int) - 4=(a:Int):=by omega
 have qw:Ak.wrap (a:Int)=(a:Int):=by rw[Au];omega
 have cg:(0:Int)<=(a:Int):=by omega
 have ch:(a:Int)<=(n:Int):=by omega
 obtain⟨X,hX⟩:=Xa (mn bs)
 have ah:bs.take a=X:=by rw[<- hX,<- aF,<- hl];rfl
 have aD:X.length=a:=by rw[<- ah,AE];omega
 obtain⟨p1,bd⟩:=Xa (s.extract a n)
 obtain⟨p2,bJ⟩:=Xa (s.extract 0 a)
 have P:p1.data.toList=bs.drop a:=by rw[<- bd,Kk hs,Av (by rw[AO];omega)]
 have d2:p2.data.toList=X:=by rw[<- bJ,Kk hs];simpa using ah
 obtain⟨t1,aI⟩:=Xa (val (bs.drop a))
 obtain⟨U,aj⟩:=Xa (ls X)
 have ae:Hid (jg bs=if t1≠U then(0,[],11)else if X.take 4≠[70,66,76,49]then(0,[],9)else lx (val ((X.drop 4).take 4)) (iQ (val ((X.drop 8).take 4)) [] (X.drop 12,false))):=by
  show _=_;unfold jg;rw[Ay (by omega),hX,hl,aF,aI,aj]
 have H:Hid (s=⟨bs.toArray⟩/\bs.length=n/\bs.take a=X/\X.length=a/\n - 4=a):=⟨hs,hl,ah,aD,aF⟩
 have bz:U<4294967296:=by rw[<- aj];exact IF _
 have qc:Al.wrap (U:Int)=(U:Int):=by rw[A5];omega
 obtain⟨tb,aK⟩:=Xa (((t1:Int) != (U:Int)))
 have aa:(t1 != U)=tb:=by
  rw[<- aK];by_cases e:t1=U
  ·subst e;simp
  ·have:¬(t1:Int)=(U:Int):=by omega
   rw[bne,bne,A3.2 e,A3.2 this]
 have ag:Hid (tb=true↔t1≠U):=by
  show _↔_;rw[<- aa];simp
 have HK:Hid (∀u,At Am 33 #[Ae p1] u λ e w'=>e=Aj (Ab Al (t1:Int))/\w'=u):=λ u=>by
  have aH:p1.size<=8:=by rw[<- bd,BH];omega
  have:=Ip p1 aH u;rw[P,aI]at this;exact this
 obtain⟨W4,F,V,aV,_,R4⟩:=Hm w.drew p2.data.toList
 have ao:p2.data.toList.length=a:=by rw[d2];exact aD
 have bA:(Cx 9 24 (Ae p2)).run Am w.drew=.ok (Aa (some ⟨w.heap.size,0,none⟩) a F) W4:=by
  have e1:tx p2.data.toList=Ae p2:=by simp
  rw[e1,ao]at V;exact V
 have a3:iE W4 (Aa (some ⟨w.heap.size,0,none⟩) a F) p2.data.toList:=by
  have:=R4.1.at R4.2.1 (R4.2.2 (by rw[ao];simp only[AH];omega));rw[ao]at this;exact this
 have HC:Hid (At Am 27 #[Aa (some ⟨w.heap.size,0,none⟩) a F] W4 λ e w'=>e=Aj (Ab .u32 (U:Int))/\w'=W4):=by
  have:=Km W4 a3;rw[d2,aj]at this;exact this
 have V4:Hid (An w.heap.size w W4):=(Ao _ w).drew.trans aV;clear hs hl hX ah aD P d2 aI aj V aV R4 ao a3 bz;go_enter func14,ntmps14
 go_upto_region 4 with fail
 go_cut[29] (λ tv u=>∃y,y=u/\tv=Ad tb/\Hid (An w.heap.size w y))
 case first =>
  go_region_with
   (first
    | (go_at_call 27;(with_reducible refine HC.o.mono ?_);rintro e w3 ⟨rfl,b⟩;rw[b];clear b w3)
    | (go_at_call 33;(with_reducible refine(HK.o _).mono ?_);rintro e w3 ⟨rfl,b⟩;rw[b];clear b w3))
  all_goals
   go_wp2_with fail;go_meet;exact⟨_,rfl,rfl,V4.o⟩
 case rest =>
  obtain⟨w1,bU,rfl,B1⟩:=hcut;subst bU;clear V4 HK HC bA;by_cases ab:t1=U
  ·have aL:tb=false:=by
    cases tb with
    | false=>rfl
    | true=>exact absurd ab (ag.o.1 rfl)
   subst aL
   have af:Hid (jg bs=if X.take 4≠[70,66,76,49]then(0,[],9)else lx (val ((X.drop 4).take 4)) (iQ (val ((X.drop 8).take 4)) [] (X.drop 12,false))):=by
    have:=ae.o;rw[Ay (by simpa using ab)]at this;exact this
   obtain⟨m4,bF⟩:=Xa (s.extract 0 4)
   have al:m4.data.toList=X.take 4:=by
    rw[<- bF,Kk H.o.1,Ok (e:=a) (by have:=H.o.2.2.2.2;omega),H.o.2.2.1];simp
   have n4:(4:Int)<=(n:Int):=by omega
   clear ae ag aK aa ab;by_cases W:X.take 4=[70,66,76,49]
   ·have bH:(m4.toList==[70,66,76,49])=true:=by
     rw[ByteArray.toList_eq,al];simpa using W
    have f:Hid (jg bs=lx (val ((X.drop 4).take 4)) (iQ (val ((X.drop 8).take 4)) [] (X.drop 12,false))):=by
     have:=af.o;rw[Ay (by simpa using W)]at this;exact this
    clear al af W
    obtain⟨nn,an⟩:=Xa (val ((X.drop 4).take 4))
    obtain⟨mm,am⟩:=Xa (val ((X.drop 8).take 4))
    have aW:12<=X.length:=by have:=H.o.2.2.2.1;have:=H.o.2.2.2.2;omega
    have cu:nn<4294967296:=by rw[<- an];exact JL (by rw[AE];omega)
    have ct:mm<4294967296:=by rw[<- am];exact JL (by rw[AE];omega)
    have cv:Ak.wrap (nn:Int)=(nn:Int):=by rw[Au];omega
    rw[an,am]at f
    obtain⟨D,hD⟩:=Xa (iQ mm [] (X.drop 12,false))
    rw[hD]at f
    have C:Hid (∀(i j:Nat) (t:ByteArray),s.extract i j=t->j<=a->j - i<=8->∀u,At Am 33 #[Ae t] u λ e w'=>e=Aj (Ab Al (val ((X.drop i).take (j - i)):Int))/\w'=u):=λ i j t N hj h8 u=>by
     have aH:t.size<=8:=by rw[<- N,BH];omega
     have:=Ip t aH u;rw[<- N,Kk H.o.1]at this;by_cases cq:i<=j
     ·rw[Ok (e:=a) (by omega),H.o.2.2.1]at this;rw[<- N];exact this
     ·rw[show j - i=0 by omega,FY]at this ⊢;rw[<- N];exact this
    obtain⟨q8,bN⟩:=Xa (s.extract 8 12)
    obtain⟨q4,bM⟩:=Xa (s.extract 4 8)
    have aO:=C.o 8 12 q8 bN (by have:=H.o.2.2.2.1;omega) (by decide) w1;rw[show 12 - 8=4 from rfl,am]at aO
    have bq:Hid (∀u,At Am 33 #[Ae q4] u λ e w'=>e=Aj (Ab Al (nn:Int))/\w'=u):=λ u=>by
     have:=C.o 4 8 q4 bM (by have:=H.o.2.2.2.1;omega) (by decide) u;rw[show 8 - 4=4 from rfl,an]at this;exact this
    have cz:(12:Int)<=(n:Int):=by omega
    have n8:(8:Int)<=(n:Int):=by omega
    have L5:Hid (DR w w1 (Aa none 0 0) [] []/\iQ mm [] (X.drop 12,false)=D/\12<=a):=⟨⟨gM.nil _ _ _ _,jc.nil _ _,B1.o⟩,hD,by have:=H.o.2.2.2.1;omega⟩
    have bb:12<=a:=L5.o.2.2;clear an am hD aW;go_wp2_with fail;refine aO.mono ?_;rintro e w2 ⟨rfl,bi⟩;rw[bi];clear bi aO;go_wp2_with fail;go_loopg[7,8,9,10,11,12] mm (λ m rv av _ _ _ _ wr=>∃(xv:Ar) (at_:Nat),xv=rv/\av=Ab Ak (at_:Int)/\at_<=a/\Hid (∃vs R,DR w wr xv vs R/\vs.length+m=mm/\iQ m R (X.drop at_,false)=D))
    case atStart=>exact⟨_,12,rfl,rfl,bb,[],[],L5.o.1,by simp,L5.o.2.1⟩
    case round =>
     obtain⟨xv,at_,bW,rfl,bZ,aQ⟩:=hrel;subst bW;clear L5;obtain⟨vs,R,hR,bS,I⟩:=aQ.o
     obtain⟨vn,ar⟩:=Xa vs.length
     obtain⟨xa,xc,rfl,_,_⟩:=hR.own.whole ar;have B:Hid (DR w wr (Aa xa vn xc) vs R):=hR;have HV:Hid (vs.length=vn):=ar;rw[ar]at bS
     have cw:Al.wrap (vn:Int)=(vn:Int):=by rw[A5];omega
     clear hR aQ ar
     cases gk with
     | zero =>
      have bE:¬(vn:Int)<(mm:Int):=by omega
      have hD:D=(R,(X.drop at_,false)):=I.symm;subst hD;by_cases aY:at_=a
      ·subst aY
       have cC:((at_:Int) != (at_:Int))=false:=by simp
       have L:Hid (jg bs=((nn:Int),R,0)):=by
        have:=f.o;unfold lx at this;rw[Ay (by simp only[List.drop_of_length_le (Nat.le_of_eq H.o.2.2.2.1)];simp)]at this;exact this
       clear f I;go_wp2_with fail;refine(bq.o _).mono ?_;rintro e w3 ⟨rfl,b⟩;rw[b];clear b;go_wp2;refine As (v:=Af #[Ab Ak (nn:Int),Aa xa vn xc,Ab Ak 0]) ?_ rfl ?_
       ·simp[AI,Tryz.f14]
       ·rw[L.o];exact⟨_,rfl,⟨vs,B.o.own,B.o.rv⟩,B.o.bel⟩
      ·have L:Hid (jg bs=(0,[],9)):=by
        have:=f.o;unfold lx at this;rw[AC (.inr (λ q=>by simp only at q;have:=A7 List.length q;rw[AO,Cj,H.o.2.2.2.1]at this;omega))]at this;exact this
       have FB:Hid (An w.heap.size w wr):=B.o.bel
       have cA:((at_:Int) != (a:Int))=true:=by rw[Ex];omega
       have cB:(at_ != a)=true:=by rw[Ex];exact aY
       clear f I;go_wp2;refine As (v:=Af #[Ab Ak 0,Aa none 0 0,Ab Ak 9]) ?_ rfl ?_
       ·simp[AI,Tryz.f14]
       ·rw[L.o];exact⟨_,rfl,⟨[],gM.nil _ _ _ _,jc.nil _ _⟩,FB.o⟩
     | succ gk =>
      have bE:(vn:Int)<(mm:Int):=by omega
      obtain⟨Y,hY⟩:=Xa (X.drop at_)
      have aX:Y.length=a - at_:=by rw[<- hY,AO,H.o.2.2.2.1]
      obtain⟨k,hk⟩:=Xa (val ((Y.drop 24).take 1))
      obtain⟨z,ac⟩:=Xa (val ((Y.drop (26+4*k)).take 2))
      have bD:k<=255:=by rw[<- hk];exact NC (by rw[AE];omega)
      have b3:z<65536:=by rw[<- ac];exact oF (by rw[AE];omega)
      rw[hY]at I
      have p:Hid ((Y.length<25∨Y.length<28+4*k∨Y.length<28+4*k+z)->jg bs=(0,[],9)):=by
       intro h;have hc:=Z7 (m:=gk) (R:=R) (XU hk ac h);rw[I]at hc;have:=f.o;unfold lx at this;rw[AC (.inl hc)]at this;exact this
      have ad:Hid (28+4*k+z<=Y.length->iQ gk (R++[rowAt Y k z]) (Y.drop (28+4*k+z),false)=D):=λ h=>by rw[<- XO hk ac h];exact I
      have E:Hid (X.drop at_=Y/\Y.length=a - at_/\val ((Y.drop 24).take 1)=k/\val ((Y.drop (26+4*k)).take 2)=z):=⟨hY,aX,hk,ac⟩
      clear I hY aX hk ac
      obtain⟨l,a2⟩:=Xa (at_+25)
      have b6:(at_:Int)+25=(l:Int):=by omega
      have cI:Ak.wrap (l:Int)=(l:Int):=by rw[Au];omega
      by_cases ck:a<l
      ·have bu:(a:Int)<(l:Int):=by omega
       have L:Hid (jg bs=(0,[],9)):=p.o (.inl (by rw[E.o.2.1];omega));have FB:Hid (An w.heap.size w wr):=B.o.bel;clear f p ad;go_wp2;refine As (v:=Af #[Ab Ak 0,Aa none 0 0,Ab Ak 9]) ?_ rfl ?_
       ·simp[AI,Tryz.f14]
       ·rw[L.o];exact⟨_,rfl,⟨[],gM.nil _ _ _ _,jc.nil _ _⟩,FB.o⟩
      ·have bu:¬(a:Int)<(l:Int):=by omega
       obtain⟨b8,ai⟩:=Xa (at_+8)
       obtain⟨c,aZ⟩:=Xa (at_+16)
       obtain⟨d,a1⟩:=Xa (at_+24)
       have e8:(at_:Int)+8=(b8:Int):=by omega
       have br:(at_:Int)+16=(c:Int):=by omega
       have b5:(at_:Int)+24=(d:Int):=by omega
       have w8:Ak.wrap (b8:Int)=(b8:Int):=by rw[Au];omega
       have bY:Ak.wrap (c:Int)=(c:Int):=by rw[Au];omega
       have cH:Ak.wrap (d:Int)=(d:Int):=by rw[Au];omega
       have r0:(0:Int)<=(at_:Int):=by omega
       have r1:(at_:Int)<=(b8:Int):=by omega
       have r2:(b8:Int)<=(n:Int):=by omega
       have r3:(0:Int)<=(b8:Int):=by omega
       have r4:(b8:Int)<=(c:Int):=by omega
       have r5:(c:Int)<=(n:Int):=by omega
       have r6:(0:Int)<=(c:Int):=by omega
       have r7:(c:Int)<=(d:Int):=by omega
       have r8:(d:Int)<=(n:Int):=by omega
       obtain⟨bl,au⟩:∃t,s.extract at_ b8=t:=⟨_,rfl⟩
       obtain⟨bm,aw⟩:∃t,s.extract b8 c=t:=⟨_,rfl⟩
       obtain⟨bn,ax⟩:∃t,s.extract c d=t:=⟨_,rfl⟩
       obtain⟨J,aM⟩:=Xa (val (Y.take 8))
       obtain⟨K,aN⟩:=Xa (val ((Y.drop 8).take 8))
       obtain⟨v3,ap⟩:=Xa (val ((Y.drop 16).take 8))
       have aR:Hid (∀u,At Am 33 #[Ae bl] u λ e w'=>e=Aj (Ab Al (J:Int))/\w'=u):=λ u=>by
        have:=C.o at_ b8 bl au (by omega) (by omega) u;rw[show b8 - at_=8 by omega,E.o.1,aM]at this;exact this
       have aS:Hid (∀u,At Am 33 #[Ae bm] u λ e w'=>e=Aj (Ab Al (K:Int))/\w'=u):=λ u=>by
        have:=C.o b8 c bm aw (by omega) (by omega) u;rw[show c - b8=8 by omega,<- ai,<- Be,E.o.1,aN]at this;exact this
       have aT:Hid (∀u,At Am 33 #[Ae bn] u λ e w'=>e=Aj (Ab Al (v3:Int))/\w'=u):=λ u=>by
        have:=C.o c d bn ax (by omega) (by omega) u;rw[show d - c=8 by omega,<- aZ,<- Be,E.o.1,ap]at this;exact this
       obtain⟨dt,aE⟩:=Xa (lK v3)
       have ay:v3<18446744073709551616:=by rw[<- ap];exact JO (by rw[AE];omega)
       have bV:Ak.wrap (v3:Int)=dt:=by rw[<- aE];exact Mi ay
       have Q:Hid (val (Y.take 8)=J/\val ((Y.drop 8).take 8)=K/\lK (val ((Y.drop 16).take 8))=dt):=⟨aM,aN,by rw[ap];exact aE⟩
       clear aM aN ap aE ay;have V0:Hid (An wr.heap.size wr wr.drew):=(Ao _ wr).drew
       go_upto_region 14 with fail
       go_cut[9] (λ pv u=>Hid (∃Z,pv=.pointer (some ⟨Z,0,none⟩)/\wr.heap.size<=Z/\gT u Z 83 #[Ab Al (J:Int),Ab Al (K:Int),Ab Ak dt,Aa none 0 0,Ab Ak 0,Ae ⟨#[]⟩]/\An wr.heap.size wr u))
       case first =>
        go_region_with
         (first
          | (go_at_call 33;(with_reducible refine(aR.o _).mono ?_);rintro e w3 ⟨rfl,b⟩;rw[b];clear b w3)
          | (go_at_call 33;(with_reducible refine(aS.o _).mono ?_);rintro e w3 ⟨rfl,b⟩;rw[b];clear b w3)
          | (go_at_call 33;(with_reducible refine(aT.o _).mono ?_);rintro e w3 ⟨rfl,b⟩;rw[b];clear b w3))
        all_goals
         go_wp2_with fail;go_meet;exact⟨_,rfl,Nat.le_refl _,gT.new _ _ _,mi V0⟩
       case rest =>
        obtain⟨Z,bL,bx,hZ,aA⟩:=hcut.o;subst bL
        obtain⟨u6,be⟩:=Xa wc
        rw[be]at hZ aA ⊢
        have HZ:Hid (gT u6 Z 83 #[Ab Al (J:Int),Ab Al (K:Int),Ab Ak dt,Aa none 0 0,Ab Ak 0,Ae ⟨#[]⟩]/\An wr.heap.size wr u6):=⟨hZ,aA⟩
        clear hcut be hZ aA aR aS aT V0 bV au aw ax e8 br w8 bY r1 r2 r3 r4 r5 r6 r7
        have bv:d<s.size:=by rw[hz];omega
        have b2:s[d].toNat=k:=by rw[<- E.o.2.2.1,<- E.o.1];exact Pu H.o.1 H.o.2.2.1 ⟨a1,by omega⟩ bv
        have cx:(d:Int)<(n:Int):=by omega
        have cF:(0:Int)<=(d:Int):=by omega
        have wk:Ak.wrap (k:Int)=(k:Int):=by rw[Au];omega
        obtain⟨f4,cp⟩:=Xa (4*k)
        obtain⟨F,cl⟩:=Xa (l+f4)
        obtain⟨r,cm⟩:=Xa (F+3)
        have cc:4*(k:Int)=(f4:Int):=by omega
        have cN:Ak.wrap (f4:Int)=(f4:Int):=by rw[Au];omega
        have b7:(l:Int)+(f4:Int)=(F:Int):=by omega
        have cJ:Ak.wrap (F:Int)=(F:Int):=by rw[Au];omega
        have b9:(F:Int)+3=(r:Int):=by omega
        have cK:Ak.wrap (r:Int)=(r:Int):=by rw[Au];omega
        by_cases h7:a<r
        ·have g7:(a:Int)<(r:Int):=by omega
         have L:Hid (jg bs=(0,[],9)):=p.o (.inr (.inl (by rw[E.o.2.1];omega)));have FB:Hid (An w.heap.size w u6):=B.o.bel.trans (HZ.o.2.mono B.o.bel.size);clear f p ad;go_wp2;refine As (v:=Af #[Ab Ak 0,Aa none 0 0,Ab Ak 9]) ?_ rfl ?_
         ·simp[AI,Tryz.f14]
         ·rw[L.o];exact⟨_,rfl,⟨[],gM.nil _ _ _ _,jc.nil _ _⟩,FB.o⟩
        ·have g7:¬(a:Int)<(r:Int):=by omega
         have N6:Hid (gT u6 Z 83 #[Ab Al (J:Int),Ab Al (K:Int),Ab Ak dt,Aa none 0 0,Ab Ak 0,Ae ⟨#[]⟩]/\gM encI 3 u6 (Z+1) (Aa none 0 0) (jT (Y.drop 25) 0)/\An wr.heap.size wr u6):=⟨HZ.o.1,gM.nil _ _ _ _,HZ.o.2⟩
         have bw:wr.heap.size<=Z:=bx
         obtain⟨wO,bk⟩:=Xb wr
         rw[<- bk]at B N6 bw
         obtain⟨gO,ba⟩:=Xb gk
         have GO:Hid (gO=gk/\vn+(gO+1)=mm):=⟨ba,by omega⟩
         clear HZ bk ba;go_wp2_with fail;go_loopg[11] k (λ m iv u=>∃(i:Nat) (O:Option Addr) (lc:Nat),iv=Ab Ak i/\i+m=k/\Hid (gT u Z 83 #[Ab Al (J:Int),Ab Al (K:Int),Ab Ak dt,Aa O i lc,Ab Ak 0,Ae ⟨#[]⟩]/\gM encI 3 u (Z+1) (Aa O i lc) (jT (Y.drop 25) i)/\An wO.heap.size wO u))
         case atStart=>exact⟨0,none,0,rfl,by omega,N6.o⟩
         case round =>
          obtain⟨i,O,lc,rfl,hi,A⟩:=hrel;clear N6;by_cases cs:i<k
          ·have ik:(i:Int)<(k:Int):=by omega
           obtain⟨f5,a7⟩:=Xa (4*i)
           obtain⟨g5,a9⟩:=Xa (l+f5)
           obtain⟨g9,bC⟩:=Xa (g5+4)
           have cd:4*(i:Int)=(f5:Int):=by omega
           have cO:Ak.wrap (f5:Int)=(f5:Int):=by rw[Au];omega
           have ce:(l:Int)+(f5:Int)=(g5:Int):=by omega
           have cP:Ak.wrap (g5:Int)=(g5:Int):=by rw[Au];omega
           have cf:(g5:Int)+4=(g9:Int):=by omega
           have cQ:Ak.wrap (g9:Int)=(g9:Int):=by rw[Au];omega
           have o1:(0:Int)<=(g5:Int):=by omega
           have o2:(g5:Int)<=(g9:Int):=by omega
           have o3:(g9:Int)<=(n:Int):=by omega
           obtain⟨t4,bP⟩:=Xa (s.extract g5 g9)
           obtain⟨v4,aq⟩:=Xa (val (((Y.drop 25).drop (4*i)).take 4))
           have aU:Hid (At Am 33 #[Ae t4] wr.drew λ e w'=>e=Aj (Ab Al (v4:Int))/\w'=wr.drew):=by
            have:=C.o g5 g9 t4 bP (by omega) (by omega) wr.drew;rw[show g9 - g5=4 by omega,<- a9,<- a7,<- a2,<- Be,<- Be,E.o.1,aq]at this;exact this
           have bh:v4<4294967296:=by rw[<- aq];exact JL (by rw[AE];omega)
           have cS:Ak.wrap (v4:Int)=(v4:Int):=by rw[Au];omega
           have HS:Hid (jT (Y.drop 25) (i+1)=jT (Y.drop 25) i++[(v4:Int)]/\(jT (Y.drop 25) i).length=i/\(jT (Y.drop 25) i++[(v4:Int)]).length=i+1):=⟨by rw[QH,aq],by simp[jT],by simp[jT]⟩
           have HC:Hid (∀j u,(encI.cells (v4:Int))[j]? = some u->(wr.drew.alloc (.cells #[Ab Ak (v4:Int)] 3)).cell? ((⟨wr.heap.size,0,none⟩:Addr).add j)=some u):=GQ encI wr.drew (v4:Int) 3;have hO:Z<wr.heap.size:=A.o.1.lt;have x3:=A.o.1.cell (j:=3) rfl;have cT:=(A.o.1.below (gW wr (.cells #[Ab Ak (v4:Int)] 3)) hO).cell (j:=3) rfl;clear a7 a9 bC aq bh
           go_upto_region 22 with fail
           go_region_law
            (first
             | (refine Pj rfl (.tmp 98) 33 #[9] rfl Ph (Ae t4) (Ab Al (v4:Int)) (by simp[Bc,DO]) aU.o ?_)
             | (refine Ix encI 3 23 8 _ rfl Tryz.info3 underlying23 rfl (.tmp 87) (.tmp 101) rfl (Z+1) (Aa O i lc) (jT (Y.drop 25) i) (v4:Int) (by simp[Bc]) (A.o.2.1.below ((Ao _ wr).drew.trans (gW wr.drew _))) wr.heap.size (by simp[Bc]) HC.o (by rw[HS.o.2.1];omega) (by rw[HS.o.2.1];simp only[AH];omega) (by simp;omega) ?_;intro v5 w5 aG a4 bG bQ;obtain⟨a5,c5,e5,_,_,_,_⟩:=gM.form aG;rw[HS.o.2.2]at e5;subst e5;have J5:Hid (gM encI 3 w5 (Z+1) (Aa a5 (i+1) c5) (jT (Y.drop 25) i++[(v4:Int)])/\An (Z+1) wr w5):=⟨aG,((gW wr _).drew.mono (by omega)).trans a4⟩;have z5:=(A.o.1.below J5.o.2 (by omega)).cell (j:=3) rfl;have ci:=(A.o.1.below J5.o.2 (by omega)).thaw 3;clear aG a4 bG bQ)
             | fail)
           all_goals
            have HO:Hid (∀S:Ap,S=w5.setCell ⟨Z,3,none⟩ (Aa a5 (i+1) c5)->gT S Z 83 #[Ab Al (J:Int),Ab Al (K:Int),Ab Ak dt,Aa a5 (i+1) c5,Ab Ak 0,Ae ⟨#[]⟩]/\gM encI 3 S (Z+1) (Aa a5 (i+1) c5) (jT (Y.drop 25) (i+1))/\An wO.heap.size wO S):=by
             rintro S rfl;have N:Aw (λ k=>k=Z) w5 (w5.setCell ⟨Z,3,none⟩ (Aa a5 (i+1) c5)):=BR 3 _;refine⟨(A.o.1.below J5.o.2 (by omega)).put 3 _,?_,?_⟩
             ·rw[HS.o.1];exact J5.o.1.stays N (λ g hg q=>by have:=(J5.o.1.lt g hg).1;have q':g=Z:=q;omega)
             ·have b1:An wO.heap.size wO w5:=A.o.2.2.trans (J5.o.2.mono (by omega));exact b1.trans (N.below b1.size (λ k hk q=>by have q':k=Z:=q;omega))
            go_wp2;go_roundg (gk - 1)
            case measure=>omega
            case rel=>exact⟨i+1,a5,c5,by go_num,by omega,HO.o _ rfl⟩
          ·have bt:k=i:=by omega
           subst bt
           have ik:¬(k:Int)<(k:Int):=by omega
           obtain⟨G,ak⟩:=Xa (val ((Y.drop (25+4*k)).take 1))
           have a6:F<s.size:=by rw[hz];omega
           have bX:s[F].toNat=G:=by rw[<- ak,<- E.o.1];exact Pu H.o.1 H.o.2.2.1 ⟨by omega,by omega⟩ a6
           have cy:(F:Int)<(n:Int):=by omega
           have cG:(0:Int)<=(F:Int):=by omega
           have b0:G<=255:=by rw[<- ak];exact NC (by rw[AE];omega)
           have cR:Ak.wrap (G:Int)=(G:Int):=by rw[Au];omega
           have x4:=A.o.1.cell (j:=4) rfl;have t4:=A.o.1.thaw 4
           obtain⟨W1,aB⟩:=Xb (wr.setCell ⟨Z,4,none⟩ (Ab Ak (G:Int)))
           have N1:Hid (gT W1 Z 83 #[Ab Al (J:Int),Ab Al (K:Int),Ab Ak dt,Aa O k lc,Ab Ak (G:Int),Ae ⟨#[]⟩]/\gM encI 3 W1 (Z+1) (Aa O k lc) (jT (Y.drop 25) k)/\An wO.heap.size wO W1):=by
            rw[aB];have N:Aw (λ k=>k=Z) wr (wr.setCell ⟨Z,4,none⟩ (Ab Ak (G:Int))):=BR 4 _;exact⟨A.o.1.put 4 _,A.o.2.1.stays N (λ g hg q=>by have:=(A.o.2.1.lt g hg).1;have q':g=Z:=q;omega),A.o.2.2.trans (N.below A.o.2.2.size (λ k hk q=>by have q':k=Z:=q;omega))⟩
           obtain⟨P,co⟩:=Xa (F+1)
           have cb:(F:Int)+1=(P:Int):=by omega
           have cM:Ak.wrap (P:Int)=(P:Int):=by rw[Au];omega
           have s1:(0:Int)<=(P:Int):=by omega
           have s2:(P:Int)<=(r:Int):=by omega
           have s3:(r:Int)<=(n:Int):=by omega
           obtain⟨t6,bR⟩:=Xa (s.extract P r)
           have az:=C.o P r t6 bR (by omega) (by omega) W1;rw[show r - P=2 by omega,show P=at_+(26+4*k) by omega,<- Be,E.o.1,E.o.2.2.2]at az
           have wz:Ak.wrap (z:Int)=(z:Int):=by rw[Au];omega
           obtain⟨M,cn⟩:=Xa (r+z)
           have ca:(r:Int)+(z:Int)=(M:Int):=by omega
           have cL:Ak.wrap (M:Int)=(M:Int):=by rw[Au];omega
           have bp:Hid (val ((Y.drop (25+4*k)).take 1)=G):=ak;clear A ak
           go_upto_region 25 with fail
           rw[<- aB];clear aB x4 t4 bX;go_wp2_with fail;refine az.mono ?_;rintro e w7 ⟨rfl,bj⟩;rw[bj];clear bj az;by_cases h9:a<M
           ·have g9:(a:Int)<(M:Int):=by omega
            have L:Hid (jg bs=(0,[],9)):=p.o (.inr (.inr (by rw[E.o.2.1];omega)));have FB:Hid (An w.heap.size w W1):=B.o.bel.trans (N1.o.2.2.mono B.o.bel.size);clear f p ad;go_wp2;refine As (v:=Af #[Ab Ak 0,Aa none 0 0,Ab Ak 9]) ?_ rfl ?_
            ·simp[AI,Tryz.f14]
            ·rw[L.o];exact⟨_,rfl,⟨[],gM.nil _ _ _ _,jc.nil _ _⟩,FB.o⟩
           ·have g9:¬(a:Int)<(M:Int):=by omega
            have q1:(0:Int)<=(r:Int):=by omega
            have q2:(r:Int)<=(M:Int):=by omega
            have q3:(M:Int)<=(n:Int):=by omega
            obtain⟨fs,bB⟩:=Xa (s.extract r M)
            have a8:fs=⟨((Y.drop (28+4*k)).take z).toArray⟩:=by
             have:fs.data.toList=(Y.drop (28+4*k)).take z:=by
              rw[<- bB,Kk H.o.1,show M - r=z by omega,Ok (e:=a) (by omega),H.o.2.2.1,show r=at_+(28+4*k) by omega,<- Be,E.o.1]
             rw[<- this]
            have bo:Hid (fs=⟨((Y.drop (28+4*k)).take z).toArray⟩):=a8;clear a8;have x5:=N1.o.1.cell (j:=5) rfl;have t5:=N1.o.1.thaw 5
            obtain⟨T,aC⟩:=Xb (W1.setCell ⟨Z,5,none⟩ (Ae fs))
            have N2:Hid (gT T Z 83 #[Ab Al (J:Int),Ab Al (K:Int),Ab Ak dt,Aa O k lc,Ab Ak (G:Int),Ae fs]/\gM encI 3 T (Z+1) (Aa O k lc) (jT (Y.drop 25) k)/\An wO.heap.size wO T):=by
             rw[aC];have N:Aw (λ k=>k=Z) W1 (W1.setCell ⟨Z,5,none⟩ (Ae fs)):=BR 5 _;exact⟨N1.o.1.put 5 _,N1.o.2.1.stays N (λ g hg q=>by have:=(N1.o.2.1.lt g hg).1;have q':g=Z:=q;omega),N1.o.2.2.trans (N.below N1.o.2.2.size (λ k hk q=>by have q':k=Z:=q;omega))⟩
            clear N1
            go_upto_region 31 with fail
            rw[<- aC];clear aC x5 t5
            obtain⟨z0,z1,z2,z3,z4,z5⟩:T.cell? ⟨Z,0,none⟩=some (Ab Al (J:Int))/\T.cell? ⟨Z,1,none⟩=some (Ab Al (K:Int))/\T.cell? ⟨Z,2,none⟩=some (Ab Ak dt)/\T.cell? ⟨Z,3,none⟩=some (Aa O k lc)/\T.cell? ⟨Z,4,none⟩=some (Ab Ak (G:Int))/\T.cell? ⟨Z,5,none⟩=some (Ae fs):=⟨N2.o.1.cell (j:=0) rfl,N2.o.1.cell (j:=1) rfl,N2.o.1.cell (j:=2) rfl,N2.o.1.cell (j:=3) rfl,N2.o.1.cell (j:=4) rfl,N2.o.1.cell (j:=5) rfl⟩
            have bf:J<18446744073709551616:=by rw[<- Q.o.1];exact JO (by rw[AE];omega)
            have bg:K<18446744073709551616:=by rw[<- Q.o.2.1];exact JO (by rw[AE];omega)
            have hO:gM im 83 T w.heap.size (Aa xa vn xc) vs:=B.o.own.below N2.o.2.2;have bT:=HV.o
            have aP:Hid (#[Ab Al (J:Int),Ab Al (K:Int),Ab Ak dt,Aa O k lc,Ab Ak (G:Int),Ae fs]=(im.cells ⟨AL J,AL K,dt,O,k,lc,(G:Int),(Y.drop (28+4*k)).take z⟩).toArray):=by
             show _=#[Ab Al ((AL J).toNat:Int),Ab Al ((AL K).toNat:Int),Ab Ak dt,Aa O k lc,Ab Ak (G:Int),tx ((Y.drop (28+4*k)).take z)];rw[Cf,Cf,CR bf,CR bg,bo.o]
            have bO:w.heap.size<=T.heap.size:=by have:=B.o.bel.size;have:=N2.o.2.2.size;omega
            go_wp2_with(at_builtin;refine BA im 83 41 72 _ rfl mK mg rfl (.tmp 138) (.tmp 140) rfl w.heap.size _ vs ⟨AL J,AL K,dt,O,k,lc,(G:Int),(Y.drop (28+4*k)).take z⟩ _ rfl hO rfl (by omega) (by simp only[AH];omega) bO _ aP.o ?_;intro v8 w8 bc ai bI aJ)
            have N8:Hid (∃vs R,DR w w8 v8 vs R/\vs.length+gO=mm/\iQ gO R (X.drop M,false)=D):=by
             have nb:=hO.noIB (by decide) (by decide);have a0:=N2.o.2.2;refine⟨_,R++[rowAt Y k z],⟨bc,?_,(B.o.bel.trans (a0.mono B.o.bel.size)).trans ai⟩,by rw[Ax,bT];have:=GO.o.2;rw[List.length_cons,Cj];omega,?_⟩
             ·refine((B.o.rv.below a0).stays aJ nb).app ⟨rfl,λ i y x hy hx=>?_⟩
              cases i with
              | zero =>
               cases hy;cases hx;have bK:=N2.o.2.1.low (B':=w.heap.size) (by have:=B.o.bel.size;omega);exact ni.stays ⟨by show _=AL _;rw[Q.o.1],by show _=AL _;rw[Q.o.2.1],Q.o.2.2.symm,by show(G:Int)=_;rw[<- bp.o];rfl,bK,rfl⟩ aJ nb
              | succ i=>simp at hy
             ·have:=ad.o (by rw[E.o.2.1];omega);rw[<- GO.o.1]at this;rw[show M=at_+(28+4*k+z) by omega,<- Be,E.o.1];exact this
            clear bc ai bI aJ hO aP;go_wp2;go_roundg gO
            case measure=>have:=GO.o;omega
            case rel=>exact⟨_,M,rfl,by first | rfl | go_num,by omega,N8.o⟩
   ·have bH:(m4.toList==[70,66,76,49])=false:=by
     rw[ByteArray.toList_eq,al];simpa using W
    have L:Hid (jg bs=(0,[],9)):=by
     have:=af.o;rw[AC W]at this;exact this
    clear al af;go_wp2;refine As (v:=Af #[Ab Ak 0,Aa none 0 0,Ab Ak 9]) ?_ rfl ?_
    ·simp[AI,Tryz.f14]
    ·rw[L.o];exact⟨_,rfl,⟨[],gM.nil _ _ _ _,jc.nil _ _⟩,B1.o⟩
  ·have aL:tb=true:=ag.o.2 ab;subst aL
   have L:Hid (jg bs=(0,[],11)):=by
    have:=ae.o;rw[AC ab]at this;exact this
   clear ae ag aK aa;go_wp2;refine As (v:=Af #[Ab Ak 0,Aa none 0 0,Ab Ak 11]) ?_ rfl ?_
   ·simp[AI,Tryz.f14]
   ·rw[L.o];exact⟨_,rfl,⟨[],gM.nil _ _ _ _,jc.nil _ _⟩,B1.o⟩
end Go.Proofs.YtakgkgmopmcecaaGreat
namespace Go.Proofs.YtakgkgmopmcecaaGreat
variable {A A0 a:Act}{K:Act->Ap->Prop}{L:List (Nat×Ar)}{M:List Nat}{N d fuel g i j kc kn l n pm:Nat}{P:Program}{Q:Exit->Act->Ap->Prop}{W w:Ap}{b:Bool}{bs:Bs}{e:F6}{k:IntKind}{m pn:Int}{ops:Array Oper}{s:AP}{v v0:Ar}
section
variable {P:Program}{pre ops:Array Oper}{n:Nat}{Q:Exit->Act->World->Prop}{S:World->Prop}
theorem V8(i:Nat)(d:Option Tmp)(v:Ar){f:Oper}{b:Array Bool}(hi:ops[i]? = some f)(hd:f.dst=d)
  (m:GX ops=true) (k:Hs e ops b i=true) (l:(Hk e ops b).contains i=true)
  (g:∀c a w,Q (.panic c) (a.put d v) w->Q (.panic c) a w) (n:D1 P ops S f v a) (j:S w)
  (h:Gl P e ops Q S fuel (b.setIfInBounds i true) (a.put d v) w):Gl P e ops Q S (fuel+1) b a w:=by
 subst hd;exact wpAnyH_take hi m k l g n j h
end
structure nF(L:List Nat)(a b:Act):Prop where
 defers:b.defers=a.defers
 size:b.tmps.size=a.tmps.size
 same:∀i,i ∉ L->b.tmps[i]? = a.tmps[i]?
theorem nF.refl(L:List Nat)(a:Act):nF L a a:=⟨rfl,rfl,λ _ _=>rfl⟩
theorem nF.put{L:List Nat}{b:Act}(h:nF L a b)(hd:d∈L)(v:Ar):nF L a (b.put (some d) v):=by
 refine⟨h.defers,?_,λ i hi=>?_⟩
 simp only[DO,Gc];exact h.size
 have:d≠i:=λ e=>hi (e ▸ hd)
 simp only[DO];rw[D8 this];exact h.same i hi
theorem YM(h:d<a.tmps.size)(v:Ar):(a.put (some d) v).tmps[d]? = some v:=by
 simp only[DO];exact Array.getElem?_setIfInBounds_self_of_lt h
theorem TZ{u:Ar}(v:Ar)(h:d≠i)(b:a.tmps[i]? = some u):(a.put (some d) v).tmps[i]? = some u:=by
 simp only[DO];rw[D8 h];exact b
theorem ZA(v:Ar)(h:a.tmps.size=n):(a.put (some d) v).tmps.size=n:=by
 simp only[DO,Gc];exact h
theorem N9(h:a.tmps[d]? = some v):a.eval (.tmp d)=v:=by
 simp only[Bc,Array.getD_eq_getD_getElem?,h,Fw]
structure oq(a b:Act)(d:Nat)(v:Ar):Prop where
 size:b.tmps.size=a.tmps.size
 at_:b.tmps[d]? = some v
 ne:∀{i:Nat} {u:Ar},d≠i->a.tmps[i]? = some u->b.tmps[i]? = some u
 upd:∀{L:List Nat} {A:Act},d∈L->nF L A a->nF L A b
theorem oq.of(h:d<a.tmps.size):oq a (a.put (some d) v) d v:=⟨ZA v rfl,YM h v,λ c b=>TZ v c b,λ hd b=>b.put hd v⟩
section
variable {P:Program}{ops:Array Oper}{Q:Exit->Act->World->Prop}{S:World->Prop}
theorem Rp{c:Code}(h:∀A,A=a->Code.wp P c Q A w):Code.wp P c Q a w:=h a rfl
end
structure Kn(N:Nat)(M:List Nat)(A0:Act)(L:List (Nat×Ar))(A:Act):Prop where
 sz:A.tmps.size=N
 up:nF M A0 A
 kn:∀(i:Nat) (p:Nat×Ar),L[i]? = some p->A.tmps[p.1]? = some p.2
section
variable {N:Nat}{M:List Nat}{A0 A:Act}{L:List (Nat×Value)}
theorem Kn.at_(h:Kn N M A0 L A)(i:Nat)(hi:L[i]? = some (d,v)):A.tmps[d]? = some v:=h.kn i _ hi
theorem Kn.ev(h:Kn N M A0 L A)(i:Nat)(hi:L[i]? = some (d,v)):A.eval (.tmp d)=v:=N9 (h.at_ i hi)
theorem Kn.put(h:Kn N M A0 L A){b:Act}(a:oq A b d v)(k:d∈M)(j:L.all (λ p=>p.1 != d)=true):Kn N M A0 ((d,v)::L) b:=by
 refine⟨a.size.trans h.sz,a.upd k h.up,λ i p hp=>?_⟩
 cases i with
 | zero =>
  cases hp;exact a.at_
 | succ i =>
  have c:=h.kn i p hp;have f:=List.all_eq_true.1 j p (List.mem_of_getElem? hp)
  have g:d≠p.1:=λ e=>by simp[e]at f
  exact a.ne g c
end
theorem Kn.of(b:A.tmps.size=N)(a:L.map (λ p=>A.tmps[p.1]?)=L.map (λ p=>some p.2)):Kn N M A L A:=by
 refine⟨b,nF.refl _ _,λ i p hp=>?_⟩;have:=A7 (λ(l:List (Option Ar))=>l[i]?) a;simp only[List.getElem?_map,hp,Option.map_some]at this;exact Option.some.inj this
theorem E1{o:Oper}{f:Nat->Option Bool}(a:o.guard=none):Bd o f=true:=by simp[Bd,a]
theorem Kn.want(h:Kn N M A0 L A){o:Oper}{want v:Bool}(i:Nat)(hi:L[i]? = some (d,Ad v))(c:o.guard=some (j,want))(hd:(ops[j]?).bind (·.dst)=some d)(a:(v==want)=b):Bd o (Co ops A.tmps)=b:=by
 subst a;simp[Bd,c,Co,hd,h.at_ i hi]
section
variable {P:Program}{ops:Array Oper}{S:World->Prop}{o:Oper}{a:Act}{v:Value}{x y c:Operand}{t:TypeId}
theorem Ew(d:Bd o (Co ops a.tmps)=true)(c:o.op=.move x)(b:a.eval x=v):D1 P ops S o v a:=by
 refine .inl ⟨d,λ u _=>?_⟩;revert b;generalize a.eval=f;intro b;simp[go_sem,c,b]
theorem Jd(h:Bd o (Co ops a.tmps)=true)(g:o.op=.pick c x y)(d:a.eval c=Ad b)(e:(if b then a.eval x else a.eval y)=v):D1 P ops S o v a:=by
 refine .inl ⟨h,λ u _=>?_⟩;revert d e;generalize a.eval=f;intro d e
 cases b <;> simp[go_sem,g,d,<- e]
theorem mZ(b:Bd o (Co ops a.tmps)=false):D1 P ops S o FG a:=.inr ⟨b,rfl⟩
theorem QQ(d:Bd o (Co ops a.tmps)=true)(c:o.op=.assign x)(b:a.eval x=v):D1 P ops S o v a:=by
 refine .inl ⟨d,λ u _=>?_⟩;revert b;generalize a.eval=f;intro b;simp[go_sem,c,b]
theorem Ls(e:Bd o (Co ops a.tmps)=true)(d:o.op=.binOp .eql s x y t)(b:a.eval x=Ab k m)(c:a.eval y=Ab k m):D1 P ops S o (Ad true) a:=by
 refine .inl ⟨e,λ u _=>?_⟩;revert b c;generalize a.eval=f;intro b c;simp[go_sem,d,b,c]
theorem oE (hw:Region.wanted o (yielded ops a.tmps)=true) {s:TypeId} (ho:o.op=.binOp .eql s x y t) {z:ByteArray} (hx:a.eval x=.string z) (hy:a.eval y=.string z) (_:∀ u,(binOp .eql s (.string z) (.string z)).run P u=.ok (.bool true) u):YieldsIf P ops S o (.bool true) a:=by
 refine .inl ⟨hw,λ u _=>?_⟩;revert hx hy;generalize a.eval=f;intro hx hy;first|(simp[go_sem,ho,hx,hy];done)|simp[go_sem,ho,hx,hy,hr]
theorem Qr(h:Bd o (Co ops a.tmps)=true)(g:o.op=.binOp .neq s x y t){n:Int}(c:a.eval x=Ab k m)(d:a.eval y=Ab k n)(e:(m != n)=b):D1 P ops S o (Ad b) a:=by
 refine .inl ⟨h,λ u _=>?_⟩;subst e;revert c d;generalize a.eval=f;intro c d;simp[go_sem,g,c,d]
theorem fm(g:Bd o (Co ops a.tmps)=true)(c:o.op=.convert s t x)(b:a.eval x=v0)(d:∀u,S u->(Cx s t v0).run P u=.ok v u):D1 P ops S o v a:=by
 refine .inl ⟨g,λ u e=>?_⟩;have:=d u e;revert b;generalize a.eval=f;intro b;simp[CP,c,b,this]
def pN(md:F6)(ops:Array Oper)(listed:Array Bool)(i d:Nat)(N:Nat)(M D:List Nat):Bool :=
 GX ops&&Hs md ops listed i&&(Hk md ops listed).contains i&&(match ops[i]? with | some o=>o.dst==some d | none=>false)&&d<N&&M.contains d&&D.all (λ p=>p != d)
theorem Kn.tk{g:F6}{e:Array Bool}(h:Kn N M A0 L A)(i d:Nat)(v:Ar){j:Oper}
  (hi:ops[i]? = some j) (f:pN g ops e i d N M (L.map (·.1))=true) (s:∀c a w,Q (.panic c) (a.put (some d) v) w->Q (.panic c) a w) (t:S w) (u:D1 P ops S j v A)
  (k:∀b,Kn N M A0 ((d,v)::L) b->Gl P g ops Q S fuel (e.setIfInBounds i true) b w):Gl P g ops Q S (fuel+1) e A w:=by
 unfold pN at f;simp only[Bool.and_eq_true,hi,Eg,A9,C7]at f;obtain⟨⟨⟨⟨⟨⟨l,m⟩,n⟩,o⟩,p⟩,q⟩,r⟩:=f;refine V8 i (some d) v hi o l m (by simpa using n) s u t ?_;refine k _ (h.put (oq.of (by rw[h.sz];exact p)) q ?_);simpa[Hz]using r
end
theorem Kn.on{S:Ap->Prop}{a:Array Bool}(h:Kn N M A0 L A)(d:Nat)(v:Ar)
  (c:(decide (d<N)&&M.contains d&&(L.map (·.1)).all (λ p=>p != d))=true) (k:∀b,Kn N M A0 ((d,v)::L) b->Gl P e ops Q S fuel a b w):Gl P e ops Q S fuel a (A.put (some d) v) w:=by
 simp only[Bool.and_eq_true,A9,C7]at c;refine k _ (h.put (oq.of (by rw[h.sz];exact c.1.1)) c.1.2 ?_);simpa[Hz]using c.2
theorem Ys{o:Oper}{x:Operand}{t:AP}(b:o.op=.convert s t x)(d:a.eval x=v0)(c:(Cx s t v0).run P w=.ok v w)(h:K (a.put o.dst v) w):Oper.wp P o a w K Q:=by
 unfold Oper.wp
 have e:(CP a.eval o).run P w=.ok (.value v) w:=by simp[CP,b,d,c]
 rw[e];exact h
theorem JI{c:Bool}{p q:Prop}(a:c=true)(h:p):if c=true then p else q:=by
 rw[AC a];exact h
theorem Ky{o:Oper}(xs:Array Operand)(f:Nat)(ts:Array AP)
  (b:o.op=.call { callee:=.value (.func f),args:=xs,argTypes:=ts }) (d:∀args w,(Ck f args).run P w=.ok (.enter f args) w) (c:Array Ar) (k:xs.map a.eval=c) (R:Ar->Ap->Prop)
  (g:At P f c w λ e w'=>∃v,e=Aj v/\R v w') (h:∀v w',R v w'->K (a.put o.dst v) w'):Oper.wp P o a w K Q:=by
 unfold Oper.wp
 have e:(CP a.eval o).run P w=.ok (.enter f c) w:=by
  have i:a.eval (.func f)=.func (.func f) #[] #[]:=rfl;simp[CP,b,resolve,invoke,k,i,Deferred.ofValue,d]
 rw[e,Oper.upon_enter];refine g.mono ?_;rintro e w' ⟨v,rfl,j⟩;exact h v w' j
end Go.Proofs.YtakgkgmopmcecaaGreat
namespace Go.Proofs.YtakgkgmopmcecaaGreat
open Go.RowKit
variable {A A0 a:Act}{K:Act->Ap->Prop}{L:List (Nat×Ar)}{M:List Nat}{N d fuel g i j kc kn l n pm:Nat}{P:Program}{Q:Exit->Act->Ap->Prop}{W w:Ap}{b:Bool}{bs:Bs}{e:F6}{k:IntKind}{m pn:Int}{ops:Array Oper}{s:AP}{v v0:Ar}
noncomputable def og (n:Nat):Code:=((Tryz.f3.body.bind (jZ n)).getD .skip)
abbrev px:List Nat:=[8,89,90,91,92,93,94,95,96,97,98,99,100,101,102,103,104,105,106,107,108,109,110,111,112,113,114,115]
theorem Rz:∀args w,(Ck 13 args).run Am w=.ok (.enter 13 args) w:=enters_of func13 (by kernel_rfl) rfl
theorem SL:∀args w,(Ck 12 args).run Am w=.ok (.enter 12 args) w:=enters_of func12 (by kernel_rfl) rfl
theorem eD:∀args w,(Ck 9 args).run Am w=.ok (.enter 9 args) w:=enters_of func9 (by kernel_rfl) rfl
theorem Zo{f k y:Option Addr}{RV:Ap->Option Addr->Prop}{r:ByteArray}
  (QA:Hid (∀u,Iz W u->At Am 13 #[Aa f pm g] u λ e w'=>∃m c',e=Aj (Aa m pm c')/\Hid (RV w' m/\Iz u w')))
  (F:Hid (∀u a c,Iz W u->RV u a->At Am 12 #[Aa a pm c,Aa k pm l] u λ e w'=>e=Aj (Ad true)/\Iz u w'))
  (E:Hid (∀u,Iz W u->At Am 9 #[Ab Ak pn,Aa f pm g] u λ e w'=>∃a c,e=Aj (Aa a kn c)/\Hid ((Cx 24 9 (Aa a kn c)).run Am w'=.ok (Ae r) w'/\Iz u w')))
  (s:Hid (∀u,Iz W u->(Cx 24 9 (Aa y kn kc)).run Am u=.ok (Ae r) u))
  (A0:Act) (h:Kn 116 px A0 [(3,Aa y kn kc),(14,Ab Ak pn),(15,Aa f pm g),(16,Ab Ak 0),(17,Ab Ak pn),(18,Aa k pm l),(19,Ab Ak 0)] A0) :
  Code.wp Am (og 18) (λ e b u=>e=.normal/\nF px A0 b/\b.tmps[8]? = some (Ad true)/\Iz W u) A0 W:=by
 have w:Hid (Iz W W.drew):=(Ao _ W).drew;unfold og;simp only[Tryz.f3,C3,jZ,reduceIte,Hg,Fw];refine Gs (S:=λ u=>(Cx 24 9 (Aa y kn kc)).run Am u=.ok (Ae r) u) (by kernel_rfl) (s.o _ w.o) (λ d=>?_);refine h.tk 0 89 (Ab Ak pn) rfl (by kernel_rfl) (λ _ _ _ h=>by cases h.1) d (Ew (E1 rfl) rfl (h.ev 1 rfl)) (λ A h=>?_);refine h.tk 1 90 (Ab Ak pn) rfl (by kernel_rfl) (λ _ _ _ h=>by cases h.1) d (Ew (E1 rfl) rfl (h.ev 5 rfl)) (λ A h=>?_);refine h.tk 2 91 (Ad true) rfl (by kernel_rfl) (λ _ _ _ h=>by cases h.1) d (Ls (E1 rfl) rfl (h.ev 1 rfl) (h.ev 0 rfl)) (λ A h=>?_);refine h.tk 3 92 (Ad true) rfl (by kernel_rfl) (λ _ _ _ h=>by cases h.1) d (Ew (E1 rfl) rfl (h.ev 0 rfl)) (λ A h=>?_);refine h.tk 4 93 (Ab Ak 0) rfl (by kernel_rfl) (λ _ _ _ h=>by cases h.1) d (Ew (h.want 0 rfl rfl rfl rfl) rfl (h.ev 7 rfl)) (λ A h=>?_);refine h.tk 5 94 (Ab Ak 0) rfl (by kernel_rfl) (λ _ _ _ h=>by cases h.1) d (Ew (h.want 1 rfl rfl rfl rfl) rfl (h.ev 11 rfl)) (λ A h=>?_);refine h.tk 6 95 (Ad true) rfl (by kernel_rfl) (λ _ _ _ h=>by cases h.1) d (Ls (h.want 2 rfl rfl rfl rfl) rfl (h.ev 1 rfl) (h.ev 0 rfl)) (λ A h=>?_);refine h.tk 7 96 (Ad true) rfl (by kernel_rfl) (λ _ _ _ h=>by cases h.1) d (Jd (E1 rfl) rfl (b:=true) (h.ev 3 rfl) (h.ev 0 rfl)) (λ A h=>?_);refine h.tk 8 97 (Ad true) rfl (by kernel_rfl) (λ _ _ _ h=>by cases h.1) d (Ew (E1 rfl) rfl (h.ev 0 rfl)) (λ A h=>?_);refine h.tk 9 98 (Aa f pm g) rfl (by kernel_rfl) (λ _ _ _ h=>by cases h.1) d (Ew (h.want 0 rfl rfl rfl rfl) rfl (h.ev 11 rfl)) (λ A h=>?_);refine h.tk 11 100 (Aa k pm l) rfl (by kernel_rfl) (λ _ _ _ h=>by cases h.1) d (Ew (h.want 1 rfl rfl rfl rfl) rfl (h.ev 15 rfl)) (λ A h=>?_);refine El (rs:=[10]) (by kernel_rfl) (by simp) ?_;refine D3 rfl (λ K p=>?_) Ef;refine JI (h.want 2 rfl rfl rfl rfl) ?_;refine Ky #[.tmp 98] 13 #[40] rfl Rz #[Aa f pm g] (by simp[h.ev 1 rfl]) (λ v w'=>∃m c',v=Aa m pm c'/\Hid (RV w' m/\An W.drew.heap.size W.drew w')) ((QA.o _ w.o).mono (by rintro e w' ⟨m,c',rfl,X⟩;exact⟨_,rfl,m,c',rfl,X⟩)) ?_;rintro v j ⟨i,n,rfl,C⟩
 have t:=I2 (w.o.trans (C.o.2.mono w.o.size)) C.o.1
 refine(Shut.out p) _ _ (s.o _ t.o.1) (λ d=>?_);refine h.on 99 (Aa i pm n) (by kernel_rfl) (λ A h=>?_);refine El (rs:=[12]) (by kernel_rfl) (by simp) ?_;refine D3 rfl (λ K p=>?_) Ef;refine JI (h.want 3 rfl rfl rfl rfl) ?_;refine Ky #[.tmp 99,.tmp 100] 12 #[41,41] rfl SL #[Aa i pm n,Aa k pm l] (by simp[h.ev 0 rfl,h.ev 1 rfl]) (λ v w'=>v=Ad true/\Iz j w') ((F.o _ i n t.o.1 t.o.2).mono (by rintro e w' ⟨rfl,X⟩;exact⟨_,rfl,rfl,X⟩)) ?_;rintro v q ⟨rfl,G⟩;have x:=Ih (t.o.1.trans (G.mono t.o.1.size));refine(Shut.out p) _ _ (s.o _ x.o) (λ d=>?_);refine h.on 101 (Ad true) (by kernel_rfl) (λ A h=>?_);refine h.tk 13 102 (Ad true) rfl (by kernel_rfl) (λ _ _ _ h=>by cases h.1) d (Jd (E1 rfl) rfl (b:=true) (h.ev 4 rfl) (h.ev 0 rfl)) (λ A h=>?_);refine h.tk 14 103 (Ad true) rfl (by kernel_rfl) (λ _ _ _ h=>by cases h.1) d (Ew (E1 rfl) rfl (h.ev 0 rfl)) (λ A h=>?_);refine h.tk 15 104 (Ab Ak 0) rfl (by kernel_rfl) (λ _ _ _ h=>by cases h.1) d (Ew (h.want 0 rfl rfl rfl rfl) rfl (h.ev 18 rfl)) (λ A h=>?_);refine h.tk 16 105 (Ad false) rfl (by kernel_rfl) (λ _ _ _ h=>by cases h.1) d (Qr (h.want 1 rfl rfl rfl rfl) rfl (h.ev 0 rfl) rfl (by decide)) (λ A h=>?_);refine h.tk 17 106 (Ad false) rfl (by kernel_rfl) (λ _ _ _ h=>by cases h.1) d (Ew (h.want 2 rfl rfl rfl rfl) rfl (h.ev 0 rfl)) (λ A h=>?_);refine h.tk 18 107 (Ab Ak pn) rfl (by kernel_rfl) (λ _ _ _ h=>by cases h.1) d (Ew (h.want 0 rfl rfl rfl rfl) rfl (h.ev 19 rfl)) (λ A h=>?_);refine h.tk 19 108 (Aa f pm g) rfl (by kernel_rfl) (λ _ _ _ h=>by cases h.1) d (Ew (h.want 1 rfl rfl rfl rfl) rfl (h.ev 21 rfl)) (λ A h=>?_);refine h.tk 22 111 (Aa y kn kc) rfl (by kernel_rfl) (λ _ _ _ h=>by cases h.1) d (Ew (h.want 2 rfl rfl rfl rfl) rfl (h.ev 20 rfl)) (λ A h=>?_);refine h.tk 23 112 (Ae r) rfl (by kernel_rfl) (λ _ _ _ h=>by cases h.1) d (fm (h.want 3 rfl rfl rfl rfl) rfl (h.ev 0 rfl) (λ u I=>I)) (λ A h=>?_);refine El (rs:=[20]) (by kernel_rfl) (by simp) ?_;refine D3 rfl (λ K p=>?_) Ef;refine JI (h.want 4 rfl rfl rfl rfl) ?_;refine Ky #[.tmp 107,.tmp 108] 9 #[3,40] rfl eD #[Ab Ak pn,Aa f pm g] (by simp[h.ev 3 rfl,h.ev 2 rfl]) (λ v w'=>∃a c,v=Aa a kn c/\Hid ((Cx 24 9 (Aa a kn c)).run Am w'=.ok (Ae r) w'/\Iz q w')) ((E.o _ x.o).mono (by rintro e w' ⟨a,c,rfl,X⟩;exact⟨_,rfl,a,c,rfl,X⟩)) ?_;rintro v B ⟨H,ec,rfl,D⟩;have z:=Ih (x.o.trans (D.o.2.mono x.o.size));refine(Shut.out p) _ _ (s.o _ z.o) (λ d=>?_);refine h.on 109 (Aa H kn ec) (by kernel_rfl) (λ A h=>?_);refine El (rs:=[21]) (by kernel_rfl) (by simp) ?_;refine D3 rfl (λ K p=>?_) Ef;refine JI (h.want 5 rfl rfl rfl rfl) ?_;refine Ys rfl (h.ev 0 rfl) D.o.1 ?_;refine(Shut.out p) _ _ (s.o _ z.o) (λ d=>?_);refine h.on 110 (Ae r) (by kernel_rfl) (λ A h=>?_);refine h.tk 24 113 (Ad true) rfl (by kernel_rfl) (λ _ _ _ h=>by cases h.1) d (oE (h.want 6 rfl rfl rfl rfl) rfl (h.ev 0 rfl) (h.ev 2 rfl) (λ u=>by go_simp)) (λ A h=>?_);refine h.tk 25 114 (Ad true) rfl (by kernel_rfl) (λ _ _ _ h=>by cases h.1) d (Jd (h.want 10 rfl rfl rfl rfl) rfl (b:=false) (h.ev 7 rfl) (h.ev 0 rfl)) (λ A h=>?_);refine h.tk 26 115 (Ad true) rfl (by kernel_rfl) (λ _ _ _ h=>by cases h.1) d (Jd (E1 rfl) rfl (b:=true) (h.ev 11 rfl) (h.ev 0 rfl)) (λ A h=>?_);refine h.tk 27 8 (Ad true) rfl (by kernel_rfl) (λ _ _ _ h=>by cases h.1) d (QQ (E1 rfl) rfl (h.ev 0 rfl)) (λ A h=>?_);exact wpAnyH_done (by kernel_rfl) ⟨rfl,h.up,h.at_ 0 rfl,z.o⟩ _
theorem X9{p:Int}{i j C:Option Addr}{k:Nat}{RV:Ap->Option Addr->Prop}
  (QA:Hid (∀u,Iz W u->At Am 13 #[Aa i pm k] u λ e w'=>∃m c',e=Aj (Aa m pm c')/\Hid (RV w' m/\Iz u w')))
  (x:Hid (∀u a c,Iz W u->RV u a->At Am 12 #[Aa a pm c,Aa j pm l] u λ e w'=>e=Aj (Ad true)/\Iz u w'))
  (B:(p != 0)=true)
  (A0:Act) (h:Kn 116 px A0 [(3,Aa C kn kc),(14,Ab Ak pn),(15,Aa i pm k),(16,Ab Ak p),(17,Ab Ak pn),(18,Aa j pm l),(19,Ab Ak p)] A0) :
  Code.wp Am (og 18) (λ e b u=>e=.normal/\nF px A0 b/\b.tmps[8]? = some (Ad true)/\Iz W u) A0 W:=by
 have r:Hid (Iz W W.drew):=(Ao _ W).drew;unfold og;simp only[Tryz.f3,C3,jZ,reduceIte,Hg,Fw];refine Gs (S:=λ _=>True) (by kernel_rfl) trivial (λ d=>?_);refine h.tk 0 89 (Ab Ak pn) rfl (by kernel_rfl) (λ _ _ _ h=>by cases h.1) d (Ew (E1 rfl) rfl (h.ev 1 rfl)) (λ A h=>?_);refine h.tk 1 90 (Ab Ak pn) rfl (by kernel_rfl) (λ _ _ _ h=>by cases h.1) d (Ew (E1 rfl) rfl (h.ev 5 rfl)) (λ A h=>?_);refine h.tk 2 91 (Ad true) rfl (by kernel_rfl) (λ _ _ _ h=>by cases h.1) d (Ls (E1 rfl) rfl (h.ev 1 rfl) (h.ev 0 rfl)) (λ A h=>?_);refine h.tk 3 92 (Ad true) rfl (by kernel_rfl) (λ _ _ _ h=>by cases h.1) d (Ew (E1 rfl) rfl (h.ev 0 rfl)) (λ A h=>?_);refine h.tk 4 93 (Ab Ak p) rfl (by kernel_rfl) (λ _ _ _ h=>by cases h.1) d (Ew (h.want 0 rfl rfl rfl rfl) rfl (h.ev 7 rfl)) (λ A h=>?_);refine h.tk 5 94 (Ab Ak p) rfl (by kernel_rfl) (λ _ _ _ h=>by cases h.1) d (Ew (h.want 1 rfl rfl rfl rfl) rfl (h.ev 11 rfl)) (λ A h=>?_);refine h.tk 6 95 (Ad true) rfl (by kernel_rfl) (λ _ _ _ h=>by cases h.1) d (Ls (h.want 2 rfl rfl rfl rfl) rfl (h.ev 1 rfl) (h.ev 0 rfl)) (λ A h=>?_);refine h.tk 7 96 (Ad true) rfl (by kernel_rfl) (λ _ _ _ h=>by cases h.1) d (Jd (E1 rfl) rfl (b:=true) (h.ev 3 rfl) (h.ev 0 rfl)) (λ A h=>?_);refine h.tk 8 97 (Ad true) rfl (by kernel_rfl) (λ _ _ _ h=>by cases h.1) d (Ew (E1 rfl) rfl (h.ev 0 rfl)) (λ A h=>?_);refine h.tk 9 98 (Aa i pm k) rfl (by kernel_rfl) (λ _ _ _ h=>by cases h.1) d (Ew (h.want 0 rfl rfl rfl rfl) rfl (h.ev 11 rfl)) (λ A h=>?_);refine h.tk 11 100 (Aa j pm l) rfl (by kernel_rfl) (λ _ _ _ h=>by cases h.1) d (Ew (h.want 1 rfl rfl rfl rfl) rfl (h.ev 15 rfl)) (λ A h=>?_);refine El (rs:=[10]) (by kernel_rfl) (by simp) ?_;refine D3 rfl (λ K s=>?_) Ef;refine JI (h.want 2 rfl rfl rfl rfl) ?_;refine Ky #[.tmp 98] 13 #[40] rfl Rz #[Aa i pm k] (by simp[h.ev 1 rfl]) (λ v w'=>∃m c',v=Aa m pm c'/\Hid (RV w' m/\An W.drew.heap.size W.drew w')) ((QA.o _ r.o).mono (by rintro e w' ⟨m,c',rfl,X⟩;exact⟨_,rfl,m,c',rfl,X⟩)) ?_;rintro v g ⟨f,n,rfl,w⟩
 have q:=I2 (r.o.trans (w.o.2.mono r.o.size)) w.o.1
 refine(Shut.out s) _ _ (trivial) (λ d=>?_);refine h.on 99 (Aa f pm n) (by kernel_rfl) (λ A h=>?_);refine El (rs:=[12]) (by kernel_rfl) (by simp) ?_;refine D3 rfl (λ K s=>?_) Ef;refine JI (h.want 3 rfl rfl rfl rfl) ?_;refine Ky #[.tmp 99,.tmp 100] 12 #[41,41] rfl SL #[Aa f pm n,Aa j pm l] (by simp[h.ev 0 rfl,h.ev 1 rfl]) (λ v w'=>v=Ad true/\Iz g w') ((x.o _ f n q.o.1 q.o.2).mono (by rintro e w' ⟨rfl,X⟩;exact⟨_,rfl,rfl,X⟩)) ?_;rintro v t ⟨rfl,z⟩;have y:=Ih (q.o.1.trans (z.mono q.o.1.size));refine(Shut.out s) _ _ (trivial) (λ d=>?_);refine h.on 101 (Ad true) (by kernel_rfl) (λ A h=>?_);refine h.tk 13 102 (Ad true) rfl (by kernel_rfl) (λ _ _ _ h=>by cases h.1) d (Jd (E1 rfl) rfl (b:=true) (h.ev 4 rfl) (h.ev 0 rfl)) (λ A h=>?_);refine h.tk 14 103 (Ad true) rfl (by kernel_rfl) (λ _ _ _ h=>by cases h.1) d (Ew (E1 rfl) rfl (h.ev 0 rfl)) (λ A h=>?_);refine h.tk 15 104 (Ab Ak p) rfl (by kernel_rfl) (λ _ _ _ h=>by cases h.1) d (Ew (h.want 0 rfl rfl rfl rfl) rfl (h.ev 18 rfl)) (λ A h=>?_);refine h.tk 16 105 (Ad true) rfl (by kernel_rfl) (λ _ _ _ h=>by cases h.1) d (Qr (h.want 1 rfl rfl rfl rfl) rfl (h.ev 0 rfl) rfl B) (λ A h=>?_);refine h.tk 17 106 (Ad true) rfl (by kernel_rfl) (λ _ _ _ h=>by cases h.1) d (Ew (h.want 2 rfl rfl rfl rfl) rfl (h.ev 0 rfl)) (λ A h=>?_);refine h.tk 18 107 FG rfl (by kernel_rfl) (λ _ _ _ h=>by cases h.1) d (mZ (h.want 0 rfl rfl rfl rfl)) (λ A h=>?_);refine h.tk 19 108 FG rfl (by kernel_rfl) (λ _ _ _ h=>by cases h.1) d (mZ (h.want 1 rfl rfl rfl rfl)) (λ A h=>?_);refine h.tk 20 109 FG rfl (by kernel_rfl) (λ _ _ _ h=>by cases h.1) d (mZ (h.want 2 rfl rfl rfl rfl)) (λ A h=>?_);refine h.tk 21 110 FG rfl (by kernel_rfl) (λ _ _ _ h=>by cases h.1) d (mZ (h.want 3 rfl rfl rfl rfl)) (λ A h=>?_);refine h.tk 22 111 FG rfl (by kernel_rfl) (λ _ _ _ h=>by cases h.1) d (mZ (h.want 4 rfl rfl rfl rfl)) (λ A h=>?_);refine h.tk 23 112 FG rfl (by kernel_rfl) (λ _ _ _ h=>by cases h.1) d (mZ (h.want 5 rfl rfl rfl rfl)) (λ A h=>?_);refine h.tk 24 113 FG rfl (by kernel_rfl) (λ _ _ _ h=>by cases h.1) d (mZ (h.want 6 rfl rfl rfl rfl)) (λ A h=>?_);refine h.tk 25 114 (Ad true) rfl (by kernel_rfl) (λ _ _ _ h=>by cases h.1) d (Jd (h.want 10 rfl rfl rfl rfl) rfl (b:=true) (h.ev 7 rfl) rfl) (λ A h=>?_);refine h.tk 26 115 (Ad true) rfl (by kernel_rfl) (λ _ _ _ h=>by cases h.1) d (Jd (E1 rfl) rfl (b:=true) (h.ev 11 rfl) (h.ev 0 rfl)) (λ A h=>?_);refine h.tk 27 8 (Ad true) rfl (by kernel_rfl) (λ _ _ _ h=>by cases h.1) d (QQ (E1 rfl) rfl (h.ev 0 rfl)) (λ A h=>?_);exact wpAnyH_done (by kernel_rfl) ⟨rfl,h.up,h.at_ 0 rfl,y.o⟩ _
end Go.Proofs.YtakgkgmopmcecaaGreat
