/-
  Several texts, laid together.
-/
import Derived.Test.YtlojblelpaegpaaGreatM37
set_option maxHeartbeats 6400000
set_option maxRecDepth 100000
open Go renaming Calls->At,bodyPost_ret->As,World->Ap,maxLen->AG,results_tmp2->AA,Value->Ar,wpQuiet_nil->AN
open Go.RowKit renaming Below->An
open Nat renaming le_refl->Az,le_trans->AZ,zero_le->BG,le_of_lt->CD
open List renaming take_succ_eq_append_getElem->Be,length_append->AD,length_cons->A3,length_take_le->CH,mem_of_getElem?->AY,contains_eq_any_beq->F8,take_of_length_le->Av,append_assoc->A9,take_length->DH,length_take->AM,idxOf_append->DW,take_add_one->AO,length_map->AQ,getElem?_eq_getElem->Aq,mem_append->AK,take_append_drop->Ch,nodup_append->Cg,getElem?_eq_some_iff->AC
open Go.RowKit.Below renaming refl->Ao
open Go.Value renaming slice->Aa,int->Ab,bool->Ad,string->Ae,agg->Ag
open Go.Obj renaming cells->Ai
open Go.Ending renaming returned->Aj
open Go.IntKind renaming i64->Ak,u64->Al
open Go.Proofs.Tryz renaming prog->Am
open Go.Proofs.Tryz
namespace Go.Proofs.YtlojblelpaegpaaGreat
open Go.RowKit
variable{B c i n oc on:Nat}{Q l:List UInt64}{a:List Bs}{ao ba oa:Option Addr}{bvs vs:List RV}{d:Dk}{g z0 z3:Ar}{st:St}{t:TypeId}{u u':World}{w w0 wr:Ap}{x:UInt64}{α:Type}
section
variable{w:World}{d:Dk}{st:St}{oa:Option Addr}{on oc:Nat}{vf vr vt:Value}
theorem Zn4(h:RdG encO w oa st.objs)(hl:st.objs.length=on)(hn:on<=1000000)(hb:∀o∈st.objs,o.body.length<=8192)(x:UInt64)(cm:Cm)(F:st.com x=cm):
  At Am 38 #[rm d vf (Aa oa on oc) vr vt,Ab Al (x.toNat:Int)] w λ e w'=>∃(pa:Option Addr) (pc:Nat),e=Aj (Ag #[Ab Al (cm.tree.toNat:Int),Aa pa cm.ps.length pc,Ab Ak cm.date,tx cm.note])/\Hid (RdG encU w' pa cm.ps/\cm.ps.length<=pc/\An w.heap.size w w'/\ZaM w pa cm.ps.length):=by
 obtain⟨W,hW⟩:=Xa ((w.alloc (nineC d vf (Aa oa on oc) vr vt)).alloc (Ai #[Ab Al 0,Aa none 0 0,Ab Ak 0,Ae ⟨#[]⟩] 101))
 have L:An w.heap.size w W:=by rw[<- hW];exact bz2 _ _ _
 have n9:Zco W w.heap.size d vf (Aa oa on oc) vr vt:=by rw[<- hW];exact(Nine.new w _ _ _ _ _ _ _ _ _).below (bz1 _ _) (by simp)
 have bx:Box4 W (w.heap.size+1) 101 (Ab Al 0) (Aa none 0 0) (Ab Ak 0) (Ae ⟨#[]⟩):=by
  rw[<- hW];have:=Box4.new (w.alloc (nineC d vf (Aa oa on oc) vr vt)) 101 (Ab Al 0) (Aa none 0 0) (Ab Ak 0) (Ae ⟨#[]⟩)
  rwa [World.size_alloc]at this
 obtain⟨M,N,O,P,Q,R,S,T,U⟩:=n9.cells
 have s:=Zgr (d:=d) (oc:=oc) (vf:=vf) (vr:=vr) (vt:=vt) (h.below L) hl hn 3 x
 have c:Hid (An w.heap.size w W/\RdG encO W oa st.objs/\Zco W w.heap.size d vf (Aa oa on oc) vr vt/\st.objs.length=on/\(∀o∈st.objs,o.body.length<=8192)/\Box4 W (w.heap.size+1) 101 (Ab Al 0) (Aa none 0 0) (Ab Ak 0) (Ae ⟨#[]⟩)/\st.com x=cm):=⟨L,h.below L,n9,hl,hb,bx,F⟩
 obtain⟨xi,H⟩:∃xi:Int,(x.toNat:Int)=xi:=⟨_,rfl⟩
 rw[H]at s ⊢;clear h hl hb H L n9 bx F;go_enter func38,ntmps38;go_wp2_with fail;refine s.mono ?_;rintro e w1 ⟨r,rfl,Y,X⟩
 have j:Hid (An w.heap.size w w1/\An W.heap.size W w1):=⟨c.o.1.trans (X.mono c.o.1.size),X⟩
 have a:=c.o.2.2.2.2.2.1.below j.o.2 c.o.2.2.2.2.2.1.lt;clear X s
 rcases Y.o with⟨C,q2⟩ | ⟨i,q2,bs,I,C⟩
 ·have ec:cm=zcm:=by
   rw[<- c.o.2.2.2.2.2.2];unfold St.com;rw[C]
   rfl
  subst q2 ec;obtain⟨x0,x1,x2,x3⟩:=a.cells;obtain⟨f0,f1,f2,f3⟩:=a.thaw;have lt:=a.lt;have f:=shidR (j.o.1.trans ((ZaC w1 (w.heap.size+1) (Ab Al 0) (Aa none 0 0) (Ab Ak 0) (Ae ⟨#[]⟩)).below j.o.1.size (λ k hk q=>by have q':k=w.heap.size+1:=q;omega)));clear C M N O P Q R S T U a Y;go_wp2;refine As (v:=Ag #[Ab Al 0,Aa none 0 0,Ab Ak 0,Ae ⟨#[]⟩]) ?_ rfl ⟨none,0,rfl,RdG.nil _ _ _,Az _,f.o,ZaM.none _ _⟩;simp[results,Tryz.f38];go_simp
 ·have ec:st.com x=(rdcom bs).getD zcm:=by
   unfold St.com;rw[C]
   rfl
  have E:=c.o.2.2.2.2.1 _ (Zb4 C);simp only at E
  have i0:(0:Int)<=(i:Int):=by omega
  have il:i<on:=by
   rw[<- c.o.2.2.2.1]
   rcases Nat.lt_or_ge i st.objs.length with q|q
   ·exact q
   ·rw[List.getElem?_eq_none q]at I;cases I
  have aa:(i:Int)<(on:Int):=by omega
  have r9:=c.o.2.2.1.below j.o.2 c.o.2.2.1.lt;clear M N O P Q R S T U;obtain⟨M,N,O,P,Q,R,S,T,U⟩:=r9.cells;obtain⟨b1,off,rfl,_⟩:=(c.o.2.1.below j.o.2).some_of I;obtain⟨_,o0,o1,o9⟩:=(c.o.2.1.below j.o.2).obs I
  obtain⟨b,n⟩:∃b:ByteArray,(⟨bs.toArray⟩:ByteArray)=b:=⟨_,rfl⟩
  have o2:w1.cell? ⟨b1,off+i*3+2,none⟩=some (Ae b):=by rw[<- n];exact o9
  have y:=Zb1 bs (by omega) w1;rw[show tx bs=Ae b by rw[<- n]]at y
  have EB:Hid (cm=(rdcom bs).getD zcm):=by rw[<- c.o.2.2.2.2.2.2];exact ec
  have B:=shidR a;subst q2;clear C I ec o0 o1 o9 r9 E n a Y;go_wp2_with fail;refine y.mono ?_;rintro e V ⟨c2,er,pa,pc,rfl,J⟩
  have ec:cm=c2:=by rw[EB.o];exact J.o.1.com
  subst ec
  obtain⟨m,z⟩:∃m:Int,(cm.tree.toNat:Int)=m:=⟨_,rfl⟩
  obtain⟨pn,g⟩:=Xa cm.ps.length
  obtain⟨dt,t⟩:=Xa cm.date
  obtain⟨nt,u⟩:∃nt:ByteArray,(⟨cm.note.toArray⟩:ByteArray)=nt:=⟨_,rfl⟩
  rw[z,g,t,show tx cm.note=Ae nt by rw[<- u]]
  obtain⟨wA,G⟩:=Xa (V.alloc (Ai #[Ab Al m,Aa pa pn pc,Ab Ak dt,Ae nt] 101))
  have K:An V.heap.size V wA:=by rw[<- G];exact bz1 _ _
  have D:Box4 wA V.heap.size 101 (Ab Al m) (Aa pa pn pc) (Ab Ak dt) (Ae nt):=by rw[<- G];exact Box4.new _ _ _ _ _ _
  have l:=(B.o.below J.o.2.2.2.1 B.o.lt).below K (B.o.below J.o.2.2.2.1 B.o.lt).lt;obtain⟨y0,y1,y2,y3⟩:=D.cells;obtain⟨x0,x1,x2,x3⟩:=l.cells;obtain⟨f0,f1,f2,f3⟩:=l.thaw;have lt:=l.lt;have ht:=ZaC wA (w.heap.size+1) (Ab Al m) (Aa pa pn pc) (Ab Ak dt) (Ae nt);have bel:An w.heap.size w wA:=(j.o.1.trans (J.o.2.2.2.1.mono j.o.1.size)).trans (K.mono (AZ j.o.1.size J.o.2.2.2.1.size))
  have NR:Hid (ZaM w pa pn):=λ Z p hp=>AZ j.o.1.size (J.o.2.2.2.2 (by rw[g];exact Z) p hp)
  have f:Hid (RdG encU ((((wA.setCell ⟨w.heap.size+1,0,none⟩ (Ab Al m)).setCell ⟨w.heap.size+1,1,none⟩ (Aa pa pn pc)).setCell ⟨w.heap.size+1,2,none⟩ (Ab Ak dt)).setCell ⟨w.heap.size+1,3,none⟩ (Ae nt)) pa cm.ps/\pn<=pc/\An w.heap.size w ((((wA.setCell ⟨w.heap.size+1,0,none⟩ (Ab Al m)).setCell ⟨w.heap.size+1,1,none⟩ (Aa pa pn pc)).setCell ⟨w.heap.size+1,2,none⟩ (Ab Ak dt)).setCell ⟨w.heap.size+1,3,none⟩ (Ae nt))):=by
   refine⟨(J.o.2.1.below K).turned ht (λ Z p hp q=>?_),by rw[<- g];exact J.o.2.2.1,bel.trans (ht.below bel.size (λ k hk q=>by have q':k=w.heap.size+1:=q;omega))⟩;have h1:=J.o.2.2.2.2 Z p hp;have h2:=B.o.lt;have q':p.block=w.heap.size+1:=q;omega
  have A:Hid ((cm.tree.toNat:Int)=m/\cm.ps.length=pn/\cm.date=dt/\(⟨cm.note.toArray⟩:ByteArray)=nt):=⟨z,g,t,u⟩
  clear z g t u K D l J y EB M N O P Q R S T U o2 ht bel B;go_wp2;refine As (v:=Ag #[Ab Al m,Aa pa pn pc,Ab Ak dt,Ae nt]) ?_ rfl ?_
  ·simp[results,Tryz.f38];go_simp
  ·refine⟨pa,pc,?_,f.o.1,by rw[A.o.2.1];exact f.o.2.1,f.o.2.2,by rw[A.o.2.1];exact NR.o⟩;rw[A.o.1,A.o.2.1,A.o.2.2.1,<- A.o.2.2.2]
end
theorem ZkA{l:List Bs}(h:i<l.length)(f:Bs->List α):(l.take (i+1)).flatMap f=(l.take i).flatMap f++f (el l i):=by
 rw[Be h,List.flatMap_append,<- Za9 h];simp
theorem Zhb(f:Bs->List α)(n:Nat)(h:∀p,(f p).length<=n)(l:List Bs)(i:Nat):((l.take i).flatMap f).length<=n*i:=by
 have key:∀m:List Bs,(m.flatMap f).length<=n*m.length:=by
  intro m
  induction m with
  | nil=>simp
  | cons x t c =>
   have:=h x;simp only[List.flatMap_cons,AD,A3,Nat.mul_add,Nat.mul_one];omega
 have a:=key (l.take i);have b:n*(l.take i).length<=n*i:=Nat.mul_le_mul_left n (CH i l);omega
theorem ZmX{a:List Int}(z:Int)(w:Ap)(l:RdG encI w ao a)(p:a.length=n)(t:n<=1000000000)(f:Bool)(m:a.contains z=f):
  At Am 96 #[Aa ao n c,Ab Ak z] w λ e w'=>e=Aj (Ad f)/\w'=w:=by
 have H:Hid (RdG encI w ao a/\a.length=n/\a.contains z=f):=⟨l,p,m⟩
 clear l p m;go_enter func96,ntmps96;go_wp2_with fail;go_loopg[5] n (λ k v wr=>∃i:Nat,v=Ab Ak i/\i+k=n/\wr=w/\Hid ((a.take i).contains z=false))
 case atStart=>exact⟨0,rfl,by omega,rfl,rfl⟩
 case round =>
  obtain⟨i,rfl,hi,rfl,j⟩:=hrel;by_cases h:i<n
  ·have id:(i:Int)<(n:Int):=by omega
   obtain⟨y,g⟩:=Zaf H.o.2.1 h;obtain⟨b,off,rfl,q⟩:=H.o.1.some_of g;have r:=H.o.1.ints g;have Y:Hid (a[i]? = some y):=g;clear g;by_cases d:y=z
   ·subst d;go_wp2;go_ret
    have e:f=true:=by
     rw[<- H.o.2.2,List.contains_iff_mem];exact AY Y.o
    exact⟨by rw[e];rfl,rfl⟩
   ·have s:(y==z)=false:=by simpa using d
    go_wp2;go_roundg (gk - 1)
    case measure=>omega
    case rel =>
     refine⟨i+1,by go_num,by omega,rfl,?_⟩;show _=_;rw[ZcZ Y.o,F8,List.any_append,<- F8,j.o];simp[Ne.symm d]
  ·obtain rfl:i=n:=by omega
   have e:=j.o;rw[Av (by rw[H.o.2.1];omega),H.o.2.2]at e;subst e;go_wp2;go_ret;exact⟨rfl,rfl⟩
theorem Znt{ps:List Bs}(m:Int)(N:m<=9223372036854775807)(w:Ap)(I:Rd w ao ps)(K:ps.length=n)(Q:n<=4000000)(j:∀x∈ps,x.length<=9223372036854775807):
  At Am 95 #[Aa ao n c,Ab Ak m] w λ e w'=>∃v',e=Aj v'/\OwnG encI 3 w' w.heap.size v' (ps.flatMap λ p=>poss p m)/\An w.heap.size w w':=by
 have H:Hid (Rd w ao ps/\ps.length=n/\∀x∈ps,x.length<=9223372036854775807):=⟨I,K,j⟩
 clear I K j;go_enter func95,ntmps95;go_wp2_with fail;go_loopg[5,6] n (λ k O v wr=>∃i:Nat,v=Ab Ak i/\i+k=n/\Hid (OwnG encI 3 wr w.heap.size O ((ps.take i).flatMap λ p=>poss p m)/\An w.heap.size w wr))
 case atStart=>exact⟨0,rfl,by omega,OwnG.nil _ _ _ _,Ao _ _⟩
 case round =>
  obtain⟨i,rfl,hi,a⟩:=hrel;by_cases r:i<n
  ·have id:(i:Int)<(n:Int):=by omega
   obtain⟨b,off,rfl,B,J⟩:=H.o.1 (by rw[H.o.2.1];omega)
   obtain⟨x,j⟩:=Xa (el ps i)
   have A:=J i (by rw[H.o.2.1];omega);rw[j]at A
   have C:x.length<=9223372036854775807:=by rw[<- j];exact H.o.2.2 _ (Zcj (by rw[H.o.2.1];exact r))
   have P:wr.cell? ⟨b,off+i,none⟩=some (Ae ⟨x.toArray⟩):=(a.o.2.cell B).trans A;have h:=ZkA (l:=ps) (i:=i) (by rw[H.o.2.1];exact r) (λ p=>poss p m);rw[j]at h;have z:Hid _:=h;have g:=ZeH x m N C wr
   have t:Hid (((ps.take i).flatMap λ p=>poss p m).length<=3*i/\(poss x m).length<=3):=⟨Zhb _ _ (λ p=>ZfJ p m) _ _,ZfJ x m⟩
   obtain⟨G,q⟩:=Xa (((ps.take i).flatMap λ p=>poss p m))
   obtain⟨L,s⟩:=Xa (poss x m)
   rw[q]at a t z;rw[s]at t z g;clear J A j h q s;go_wp2_with fail;refine g.mono ?_;rintro e D ⟨R,rfl,E,y⟩;obtain⟨a2,M,rfl,_,_,F,_⟩:=E.form
   have u:Hid (RdG encI D a2 L/\OwnG encI 3 D w.heap.size _ G/\An w.heap.size w D):=⟨F,a.o.1.below y,a.o.2.trans (y.mono a.o.2.size)⟩
   clear E y F g;go_wp2_with(at_builtin;refine Za7 encI 3 23 8 (Ab Ak 0) rfl Tryz.info3 underlying23 rfl (.tmp 13) (.tmp 19) rfl w.heap.size _ G L a2 _ M rfl u.o.2.1 rfl u.o.1 rfl (by have:=t.o;omega) (by have:=t.o;simp only[AG];omega) u.o.2.2.size ?_;intro v4 S f d _ _);go_roundg (gk - 1)
   case measure=>omega
   case rel=>exact⟨i+1,by go_num,by omega,by rw[z.o];exact f,u.o.2.2.trans d⟩
  ·obtain rfl:i=n:=by omega
   have e:ps.take i=ps:=Av (by rw[H.o.2.1];omega);rw[e]at a;go_wp2;go_ret;exact⟨_,rfl,a.o.1,a.o.2⟩
theorem ZmG{p:Bs}(h:isPath p=true):0<(parts p).length:=by
 rw[parts,AE h,AD];simp
theorem Ze6(w:Ap)(ha:Rd w ao a)(hl:a.length=n)(hn:n<=9000):
  At Am 94 #[Aa ao n c] w λ e w'=>∃P c',e=Aj (.tuple #[Aa P (fpaths a).length c',Ab Ak (fcount a:Int)])/\Rd w' P (fpaths a)/\An w.heap.size w w':=by
 have H:Hid (Rd w ao a/\a.length=n):=⟨ha,hl⟩
 clear ha hl;go_enter func94,ntmps94;go_wp2_with fail
 go_loopg[4,5,6] n (λ k rv av v wr=>∃(i:Nat) (Q:Option Addr) (rn rc:Nat) (I:Option Addr) (M ac:Nat),v=Ab Ak i/\rv=Aa Q rn rc/\av=Aa I M ac/\i+k=n /\
  Hid ((srt ((a.take i).filter isPath)).length=rn/\Rd wr Q (srt ((a.take i).filter isPath))/\(srt ((a.take i).flatMap parts)).length=M/\Rd wr I (srt ((a.take i).flatMap parts))/\An w.heap.size w wr))
 case atStart=>exact⟨0,none,0,0,none,0,0,rfl,rfl,rfl,by omega,rfl,Rd.nil _ _,rfl,Rd.nil _ _,Ao _ _⟩
 case round =>
  obtain⟨i,Q,rn,rc,I,M,ac,rfl,rfl,rfl,hi,d⟩:=hrel
  obtain⟨go,J⟩:=Xb gk
  rw[<- J]at hi;have GO:Hid (go=gk):=J;clear J;by_cases Y:i<n
  ·have id:(i:Int)<(n:Int):=by omega
   obtain⟨b,off,rfl,ab,hc⟩:=H.o.1 (by rw[H.o.2];omega)
   obtain⟨x,hx⟩:=Xa (el a i)
   have c0:=hc i (by rw[H.o.2];omega);rw[hx]at c0;have c1:wr.cell? ⟨b,off+i,none⟩=some (Ae ⟨x.toArray⟩):=(d.o.2.2.2.2.cell ab).trans c0;have CX:Hid (w.cell? ⟨b,off+i,none⟩=some (Ae ⟨x.toArray⟩)):=c0;have z:=Zef (l:=a) (i:=i) (by rw[H.o.2];exact Y) isPath;have F:=Zd0 (l:=a) (i:=i) (by rw[H.o.2];exact Y) parts;rw[hx]at z F
   have au:rn<=9000:=by
    rw[<- d.o.1];have U:=Zcr ((a.take i).filter isPath);have h2:=List.length_filter_le isPath (a.take i);have h3:=CH i a;omega
   have ak:((a.take i).flatMap parts).length<=927000:=by
    have U:=Zbo (a.take i);have h2:=CH i a;omega
   obtain⟨T,X⟩:=Xa ((a.take i).filter isPath)
   obtain⟨B,W⟩:=Xa ((a.take i).flatMap parts)
   rw[X]at d z;rw[W]at d F ak;have E:=ZjC ⟨x.toArray⟩ wr;have ae:=ZeF x;have q:isPath x=true->0<(parts x).length:=ZmG;have t:isPath x=false->parts x=[]:=Zjk
   obtain⟨g,hg⟩:=Xa (isPath x)
   rw[hg]at z q t
   have ST:Hid ((a.take (i+1)).filter isPath=T++(if g then[x]else[])/\(a.take (i+1)).flatMap parts=B++parts x):=⟨z,F⟩
   have S:parts (⟨x.toArray⟩:ByteArray).data.toList=parts x:=rfl;rw[S]at E
   obtain⟨qs,ag⟩:=Xa (parts x)
   rw[ag]at E ae q t ST;clear hc c0 hx z F X W hg S ag;go_wp2_with fail;refine E.mono ?_;rintro e N ⟨v2,rfl,O2,B2⟩;obtain⟨a2,c2,rfl,_,_,R2⟩:=O2.form
   obtain⟨qn,L⟩:=Xa qs.length
   rw[L]at ae q ⊢
   have p:Hid (Rd N a2 qs/\qs.length=qn/\Rd N Q (srt T)/\Rd N I (srt B)/\An w.heap.size w N):=⟨R2,L,d.o.2.1.below B2,d.o.2.2.2.1.below B2,d.o.2.2.2.2.trans (B2.mono d.o.2.2.2.2.size)⟩
   have R:N.cell? ⟨b,off+i,none⟩=some (Ae ⟨x.toArray⟩):=(p.o.2.2.2.2.cell ab).trans CX.o;clear O2 B2 R2 E L
   go_upto_if 22 with fail
   go_cut[4] (λ rv u=>∃(h:Option Addr) (G A:Nat),rv=Aa h G A/\Hid (Rd u a2 qs/\qs.length=qn/\Rd u h (srt (T++if g then[x]else[]))/\(srt (T++if g then[x]else[])).length=G/\Rd u I (srt B)/\(srt B).length=M/\An w.heap.size w u))
   case first =>
    cases g with
    | true =>
     have af:=q rfl
     have am:(0:Int)<(qn:Int):=by omega
     have m:=ZdF (c:=rc) x N p.o.2.2.1 d.o.1 (by omega);rw[<- ZdP]at m;go_wp2_with fail;refine m.mono ?_;rintro e w3 ⟨h,A,rfl,R3,B3⟩
     have f:Hid (Rd w3 a2 qs/\qs.length=qn/\Rd w3 h (srt (T++[x]))/\Rd w3 I (srt B)/\(srt B).length=M/\An w.heap.size w w3):=⟨p.o.1.below B3,p.o.2.1,R3,p.o.2.2.2.1.below B3,d.o.2.2.1,p.o.2.2.2.2.trans (B3.mono p.o.2.2.2.2.size)⟩
     clear m R3 B3 c1 R q t;go_wp2_with fail;go_meet;exact⟨h,_,A,rfl,f.o.1,f.o.2.1,f.o.2.2.1,rfl,f.o.2.2.2⟩
    | false =>
     have af:=t rfl;have K:=p.o.2.1;rw[af]at K;have al:qn=0:=K.symm;subst al;clear K;go_wp2_with fail;go_meet;exact⟨Q,rn,rc,rfl,p.o.1,p.o.2.1,by simpa using p.o.2.2.1,by simpa using d.o.1,p.o.2.2.2.1,d.o.2.2.1,p.o.2.2.2.2⟩
   case rest =>
    obtain⟨h,G,A,rfl,f⟩:=hcut;clear c1 R q t;go_wp2_with fail;go_loopg[5,8] qn (λ k av v wr=>∃(j:Nat) (C:Option Addr) (s D:Nat),v=Ab Ak j/\av=Aa C s D/\j+k=qn/\Hid ((srt (B++qs.take j)).length=s/\Rd wr C (srt (B++qs.take j))/\An wc.heap.size wc wr))
    case atStart=>exact⟨0,I,M,ac,rfl,rfl,by omega,by simpa using f.o.2.2.2.2.2.1,by simpa using f.o.2.2.2.2.1,Ao _ _⟩
    case round =>
     obtain⟨j,C,s,D,rfl,rfl,hj,r⟩:=hrel;by_cases aj:j<qn
     ·have jd:(j:Int)<(qn:Int):=by omega
      obtain⟨b2,o2,rfl,ad,V⟩:=f.o.1 (by rw[f.o.2.1];omega)
      obtain⟨y,hy⟩:=Xa (el qs j)
      have cy:=V j (by rw[f.o.2.1];omega);rw[hy]at cy;have ap:wr.cell? ⟨b2,o2+j,none⟩=some (Ae ⟨y.toArray⟩):=(r.o.2.2.cell ad).trans cy
      have ah:qs.take (j+1)=qs.take j++[y]:=by
       have Z:j<qs.length:=by rw[f.o.2.1];exact aj
       rw[Be Z,<- hy,Za9 Z]
      have aq:s<=927103:=by
       rw[<- r.o.1];have U:=Zcr (B++qs.take j);have h2:=CH j qs;rw[AD]at U;omega
      have m:=ZdF (c:=D) y wr r.o.2.1 r.o.1 (by omega);rw[<- ZdP,A9,<- ah]at m;clear V cy hy ah;go_wp2_with fail;refine m.mono ?_;rintro e w5 ⟨O,ai,rfl,R5,B5⟩
      have G5:Hid (Rd w5 O (srt (B++qs.take (j+1)))/\An wc.heap.size wc w5):=⟨R5,r.o.2.2.trans (B5.mono r.o.2.2.size)⟩
      clear R5 B5 m;go_wp2;go_roundg (gk - 1)
      case measure=>omega
      case rel=>exact⟨j+1,O,_,ai,by go_num,rfl,by omega,rfl,G5.o.1,G5.o.2⟩
     ·obtain rfl:j=qn:=by omega
      have e:qs.take j=qs:=Av (by rw[f.o.2.1];omega);rw[e]at r;clear e;go_wp2;go_roundg (go - 1)
      case measure=>have:=GO.o;omega
      case rel =>
       refine⟨i+1,h,G,A,C,s,D,by go_num,rfl,rfl,by omega,?_⟩;rw[ST.o.1,ST.o.2];exact⟨f.o.2.2.2.1,f.o.2.2.1.below r.o.2.2,r.o.1,r.o.2.1,f.o.2.2.2.2.2.2.trans (r.o.2.2.mono f.o.2.2.2.2.2.2.size)⟩
  ·obtain rfl:i=n:=by omega
   have e:a.take i=a:=Av (by rw[H.o.2];omega);rw[e]at d;clear e;go_wp2;refine As (AA rfl _ _ _) rfl ?_;refine⟨I,ac,?_,d.o.2.2.2.1,d.o.2.2.2.2⟩;have U:=d.o.1;have h2:=d.o.2.2.1;unfold fpaths fcount;rw[U,h2]
   rfl
def hor(f:Nat->Bool):Nat->Nat
 | 0=>0
 | s+1=>2*hor f s+(f (7 - s)).toNat
theorem Zo6(f:Nat->Bool):∀s,hor f s<2 ^ s
 | 0=>by simp[hor]
 | s+1=>by
  have:=Zo6 f s;have h:(f (7 - s)).toNat<=1:=Bool.toNat_le _;rw[hor,Nat.pow_succ];omega
theorem Zpr(f:Nat->Bool):hor f 8=bitsOf f:=by
 simp only[hor,bitsOf,Nat.reduceSub,Nat.sub_zero];omega
theorem Zl1(f:Nat->Bool){s:Nat}(c:s<8):hor f s<128:=by
 have a:=Zo6 f s;have b:2 ^ s<=2 ^ 7:=Nat.pow_le_pow_right (by decide) (by omega);omega
theorem Zj6(y:UInt8)(u:Int)(h:(y.toNat:Int)=u):(#[Ab .u8 u]:Array Ar)=(encB.cells y).toArray:=by
 rw[<- h]
 rfl
theorem ZjY{d:List Bs}(w:Ap)(h:Rd w ao d)(i:d.length=n)(m:n<=9000)(j:8<fcount d):
  At Am 39 #[Aa ao n c] w λ e w'=>e=Aj (tx [2])/\An w.heap.size w w':=by
 have a:=Ze6 (c:=c) w h i m
 obtain⟨qs,f⟩:=Xa (fpaths d)
 obtain⟨pn,b⟩:=Xa (fcount d)
 rw[f,b]at a;rw[b]at j
 have k:(8:Int)<(pn:Int):=by omega
 clear h i f b;go_enter func39,ntmps39;go_wp2_with fail;refine a.mono ?_;rintro e w1 ⟨a1,p,rfl,_,g⟩;have G:Hid (An w.heap.size w w1):=g;have l:=Za1 (ZfY w1 [2] 5 (0,0) #[Ab .u8 2] rfl 1 rfl (by decide));clear g a;go_wp2;go_ret;exact⟨rfl,G.o.trans ((bz1 w1 _).mono G.o.size)⟩
theorem ZmF{q:List Bs}(w:Ap)(ha:Rd w ao q)(hl:q.length=n)(hn:n<=9000)(hc:¬8<fcount q):
  At Am 39 #[Aa ao n c] w λ e w'=>e=Aj (tx (1::fbytes (fones q) (nby (fpaths q).length)))/\An w.heap.size w w':=by
 have z:=Ze6 (c:=c) w ha hl hn;have X:=Ze0 q
 have R:∀x∈fpaths q,x.length<=9223372036854775807:=by
  intro x h;obtain⟨p,_,h2⟩:=List.mem_flatMap.1 ((Zbh _ _).1 h);have:=Zfi h2;omega
 unfold fones
 obtain⟨qs,Q⟩:=Xa (fpaths q)
 obtain⟨pn,O⟩:=Xa (fcount q)
 rw[Q,O]at z X;rw[O]at hc;rw[Q]at R ⊢
 obtain⟨qn,P⟩:=Xa qs.length
 rw[P]at X z ⊢
 obtain⟨b,J⟩:=Xa (nby qn)
 have g:(12*qn<8->8*b=8)/\(¬12*qn<8->12*qn<=8*b/\8*b<12*qn+8):=by
  rw[<- J];unfold nby;omega
 rw[J]
 obtain⟨M,hM⟩:=Xa (8*b)
 have eM:8*(b:Int)=(M:Int):=by omega
 rw[eM];rw[hM]at g;have MM:Hid (8*b=M):=hM
 have an:M<=100000:=by omega
 have ap:¬(8:Int)<(pn:Int):=by omega
 have L:Hid (qs.length=qn/\∀x∈qs,x.length<=9223372036854775807):=⟨P,R⟩
 have N2:Hid ((12*qn<8->M=8)/\(¬12*qn<8->12*qn<=M/\M<12*qn+8)):=g;clear ha hl Q O R P J hM eM g;go_enter func39,ntmps39;go_wp2_with fail;refine z.mono ?_;rintro e w1 ⟨a1,c1,rfl,R1,B1⟩
 have G:Hid (Rd w1 a1 qs/\An w.heap.size w w1):=⟨R1,B1⟩
 clear R1 B1 z
 go_upto_if 24 with fail
 go_cut[5] (λ mv u=>u=w1/\∃V:Nat,mv=Ab Ak (V:Int)/\V<=M/\M<V+8)
 case first =>
  by_cases h8:12*qn<8
  ·have ad:12*(qn:Int)<8:=by omega
   go_wp2_with fail;go_meet;have:=N2.o.1 h8;exact⟨rfl,8,rfl,by omega,by omega⟩
  ·have ad:¬12*(qn:Int)<8:=by omega
   go_wp2_with fail;go_meet;have:=N2.o.2 h8;exact⟨rfl,12*qn,by go_num,by omega,by omega⟩
 case rest =>
  obtain⟨C,V,rfl,h1,h2⟩:=hcut;have i:=C.symm;subst i;clear C;go_wp2_with fail;go_loopg[5] (M - V) (λ t mv wr=>wr=w1/\∃m:Nat,mv=Ab Ak (m:Int)/\m+t=M/\t<8)
  case atStart=>exact⟨rfl,V,rfl,by omega,by omega⟩
  case round =>
   obtain⟨C,m,rfl,h3,h4⟩:=hrel;have i:=C.symm;subst i;clear C h1 h2
   have Z:M % 8=0:=by have:=MM.o;omega
   by_cases h0:m % 8=0
   ·have W:(m:Int) % 8=0:=by omega
    obtain rfl:m=M:=by omega
    have al:((m:Int) % 8 != 0)=false:=by simp[W]
    have T:=Znt (c:=c1) (m:Int) (by omega) w1 G.o.1 L.o.1 (by omega) L.o.2
    obtain⟨a,y⟩:=Xa ((qs.flatMap λ p=>poss p (m:Int)))
    have ah:a.length<=3*qn:=by
     rw[<- y,<- L.o.1];have:=Zhb (λ p=>poss p (m:Int)) 3 (λ p=>ZfJ p _) qs qs.length
     rwa [DH]at this
    rw[y]at T;have ON:Hid ((qs.flatMap λ p=>poss p (m:Int))=a):=y;clear y h4 h3 Z h0 N2;go_wp2_with fail;refine T.mono ?_;rintro e d ⟨v3,rfl,O3,B3⟩;obtain⟨a3,c3,rfl,_,_,R3,_⟩:=O3.form
    obtain⟨zn,U⟩:=Xa a.length
    rw[U]at ah ⊢
    have G3:Hid (RdG encI d a3 a/\a.length=zn/\An w.heap.size w d):=⟨R3,U,G.o.2.trans (B3.mono G.o.2.size)⟩
    have O4:Hid (OwnG encB 5 (d.alloc (Ai #[Ab .u8 1] 5)) d.heap.size (Aa (some ⟨d.heap.size,0,none⟩) 1 1) [1]/\An d.heap.size d (d.alloc (Ai #[Ab .u8 1] 5))):=⟨World.ownsRow_lit d #[Ab .u8 1] 1 (Az _) (by decide) rfl,bz1 _ _⟩
    clear T O3 B3 R3 U;go_wp2_with fail;go_loopg[7,8] b (λ t ov v wr=>∃(j A:Nat),v=Ab Ak (A:Int)/\j+t=b/\Hid (A=8*j)/\Hid (OwnG encB 5 wr d.heap.size ov (1::(fbytes a b).take j)/\An d.heap.size d wr))
    case atStart=>exact⟨0,0,rfl,by omega,rfl,O4.o⟩
    case round =>
     obtain⟨j,A,rfl,hj,AJ,l⟩:=hrel
     obtain⟨go,H⟩:=Xb gk
     rw[<- H]at hj;have GO:Hid (go=gk):=H;clear H
     obtain⟨wo,aj⟩:=Xb wr
     subst aj;by_cases ag:j<b
     ·have jd:(A:Int)<(m:Int):=by have:=AJ.o;have:=MM.o;omega
      obtain⟨f,hf⟩:∃f:Nat->Bool,(λ k=>a.contains ((8*j+k:Nat):Int))=f:=⟨_,rfl⟩
      have F:Hid (∀k,a.contains ((8*j+k:Nat):Int)=f k):=λ k=>by rw[<- hf]
      have FB:Hid (((fbyte a j).toNat:Int)=(bitsOf f:Int)):=by show _=_;rw[ZbD,hf]
      clear hf;go_wp2_with fail;go_loopg[9,10] 8 (λ t bv v wx=>wx=wo/\∃s:Nat,s+t=8/\v=Ab Ak ((t:Int) - 1)/\bv=Ab .u8 ((hor f s:Nat):Int))
      case atStart=>exact⟨rfl,0,rfl,rfl,rfl⟩
      case round =>
       obtain⟨C,s,hs,rfl,rfl⟩:=hrel;have i:=C.symm;subst i;clear C
       cases gk with
       | zero =>
        have S:s=8:=by omega
        subst S;rw[Zpr];have B:(fbytes a b)[j]? = some (fbyte a j):=Zbt _ ag;have ae:=ZgS f
        obtain⟨u,hu⟩:∃u:Int,(bitsOf f:Int)=u:=⟨_,rfl⟩
        rw[hu]at FB ⊢
        have S8:Hid ((fbytes a b).take (j+1)=(fbytes a b).take j++[fbyte a j]/\((fbytes a b).take j).length<=20000):=⟨ZcZ B,by rw[AM,ZaB];have:=MM.o;omega⟩
        clear B hu ae
        have ac:Hid (A+8=8*(j+1)):=by show _=_;have:=AJ.o;omega
        go_wp2_with(at_builtin;refine Zag encB 5 61 1 (Ab .u8 0) rfl Tryz.info5 underlying61 rfl (.tmp 52) (.tmp 54) rfl d.heap.size _ (1::(fbytes a b).take j) (fbyte a j) _ rfl l.o.1 rfl (by rw[A3];have:=S8.o.2;omega) (by rw[A3];have:=S8.o.2;simp only[AG];omega) l.o.2.size _ (Zj6 _ _ FB.o) ?_;intro v4 w4 N D _ _);go_roundg (go - 1)
        case measure=>have:=GO.o;omega
        case rel=>exact⟨j+1,A+8,by go_num,by omega,ac.o,by rw[S8.o.1];exact N,l.o.2.trans D⟩
       | succ r =>
        have er:((r+1:Nat):Int) - 1=(r:Int):=by omega
        rw[er]
        have S:s<8:=by omega
        have ai:=Zl1 f S
        obtain⟨h,hh⟩:=Xa (hor f s)
        have HH:Hid (hor f s=h/\7 - s=r):=⟨hh,by omega⟩
        rw[hh]at ai ⊢;have I:=ZmX (c:=c3) ((A:Int)+(r:Int)) wo (G3.o.1.below l.o.2) G3.o.2.1 (by omega) (f r) (by rw[<- F.o r];congr 1;have:=AJ.o;omega)
        obtain⟨fr,E⟩:=Xa (f r)
        have FR:Hid (f r=fr):=E;rw[E]at I
        have am:A<=100000:=by omega
        clear hh er E;go_wp2_with fail;refine I.mono ?_;rintro e w5 ⟨rfl,aa⟩;have ab:=aa.symm;subst ab;clear aa I
        cases fr with
        | true =>
         go_wp2;go_roundg r
         case measure=>omega
         case rel=>exact⟨rfl,s+1,by omega,by go_num,by rw[hor,HH.o.1,HH.o.2,FR.o];go_num⟩
        | false =>
         go_wp2;go_roundg r
         case measure=>omega
         case rel=>exact⟨rfl,s+1,by omega,by go_num,by rw[hor,HH.o.1,HH.o.2,FR.o];go_num⟩
     ·obtain rfl:j=b:=by omega
      have jd:¬(A:Int)<(m:Int):=by have:=AJ.o;have:=MM.o;omega
      have et:(fbytes a j).take j=fbytes a j:=Av (by rw[ZaB];omega);rw[et]at l
      obtain⟨K,hK⟩:=Xa (1::fbytes a j)
      rw[hK]at l;have KK:Hid (1::fbytes a j=K):=hK;clear et hK;obtain⟨a7,c7,rfl,_,_,_,_⟩:=l.o.1.form
      obtain⟨kn,Y⟩:=Xa K.length
      have af:=Za1 (OwnB.at (l.o.1.low (BG _)));rw[Y]at af ⊢;clear Y;go_wp2;go_ret;refine⟨?_,G3.o.2.2.trans (l.o.2.mono G3.o.2.2.size)⟩;rw[ON.o,KK.o]
      rfl
   ·have W:((m:Int) % 8 != 0)=true:=by simp;omega
    have ak:((m:Int) % 8==0)=false:=by simp;omega
    go_wp2;go_roundg (gk - 1)
    case measure=>omega
    case rel=>exact⟨rfl,m+1,by go_num,by omega,by omega⟩
theorem Zm8(w:Ap)(b:Rd w ao a)(d:a.length=n)(f:n<=9000):
  At Am 39 #[Aa ao n c] w λ e w'=>e=Aj (tx (fmake a))/\An w.heap.size w w':=by
 by_cases h:8<fcount a
 ·rw[fmake,AE h];exact ZjY w b d f h
 ·rw[fmake,Aw h];exact ZmF w b d f h
theorem Zqu{y:UInt64}(h:y≠x):plI (Q++[y]) x=plI Q x:=by
 unfold plI;by_cases a:x∈Q
 ·rw[AE (by simp[a]),AE a,DW,AE a]
 ·rw[Aw (by simp[a];exact λ e=>h e.symm),Aw a]
theorem Zp5(h:¬x∈Q):plI (Q++[x]) x=(Q.length:Int):=by
 unfold plI;rw[AE (by simp),DW,Aw h,List.idxOf_cons_self];simp
theorem Zqw(h:x∈Q):plI Q x=(Q.idxOf x:Int):=AE h
theorem Zer:(0:Int)<=plI Q x↔x∈Q:=by
 unfold plI
 split
 ·rename_i h
  exact⟨λ _=>h,λ _=>by omega⟩
 ·rename_i h
  exact⟨λ q=>absurd q (by omega),λ q=>absurd q h⟩
theorem ZfI(w:Ap)(t:TypeId)(cs:Array Ar):BoxA (w.alloc (Ai cs t)).drew w.heap.size t cs:=(BoxA.new w t cs).below (Ao (w.alloc (Ai cs t)).heap.size _).drew (BoxA.new w t cs).lt
theorem ZgA(h:An B w0 w)(a:B<=w.heap.size){Q:Nat}(c:B<=Q)(cs:List Ar)(j:Nat):An B w0 (layL w Q cs j) :=
 h.trans ((Zal Q cs j).below a (λ k d e=>by have b:k=Q:=e;omega))
theorem Zcb(h:An B w0 w)(e:B<=w.heap.size){Q:Nat}(f:B<=Q)(a b c d:Ar):An B w0 ((((w.setCell ⟨Q,0,none⟩ a).setCell ⟨Q,1,none⟩ b).setCell ⟨Q,2,none⟩ c).setCell ⟨Q,3,none⟩ d):=ZgA h e f [a,b,c,d] 0
theorem Zbp(h:An B w0 w)(g:B<=w.heap.size){Q:Nat}(i:B<=Q)(a b c d e f:Ar):An B w0 ((((((w.setCell ⟨Q,0,none⟩ a).setCell ⟨Q,1,none⟩ b).setCell ⟨Q,2,none⟩ c).setCell ⟨Q,3,none⟩ d).setCell ⟨Q,4,none⟩ e).setCell ⟨Q,5,none⟩ f):=ZgA h g i [a,b,c,d,e,f] 0
theorem Zjl{Q:Nat}{f:Ar}(h:BoxA w Q t #[z0,f,g,z3])(a b c d:Ar):BoxA ((((w.setCell ⟨Q,0,none⟩ a).setCell ⟨Q,1,none⟩ b).setCell ⟨Q,2,none⟩ c).setCell ⟨Q,3,none⟩ d) Q t #[a,b,c,d]:=by
 have:=h.lays [a,b,c,d] 0
 have e:setL #[z0,f,g,z3] [a,b,c,d] 0=#[a,b,c,d]:=by simp[setL]
 rw[e]at this;exact this
theorem Zjm{Q:Nat}{i z4 z5:Ar}(h:BoxA w Q t #[z0,g,i,z3,z4,z5])(a b c d e f:Ar):BoxA ((((((w.setCell ⟨Q,0,none⟩ a).setCell ⟨Q,1,none⟩ b).setCell ⟨Q,2,none⟩ c).setCell ⟨Q,3,none⟩ d).setCell ⟨Q,4,none⟩ e).setCell ⟨Q,5,none⟩ f) Q t #[a,b,c,d,e,f]:=by
 have:=h.lays [a,b,c,d,e,f] 0
 have e:setL #[z0,g,i,z3,z4,z5] [a,b,c,d,e,f] 0=#[a,b,c,d,e,f]:=by simp[setL]
 rw[e]at this;exact this
structure Srt(ids:List UInt64)(i:Nat)(l:List UInt64):Prop where
 rise:ZbR l
 mem:∀y,y∈l↔y∈ids.take i
 len:l.length<=i
theorem Srt.zero(ids:List UInt64):Srt ids 0 []:=⟨List.Pairwise.nil,by simp,Az _⟩
theorem Srt.next{ids:List UInt64}{b:List UInt64}(h:Srt ids i l)(c:ids[i]? = some x)(a:ZpQ l x b):Srt ids (i+1) b:=by
 refine⟨a.1,λ y=>?_,by have:=a.2.2;have:=h.len;omega⟩;rw[a.2.1,h.mem,List.take_add_one,c];simp
theorem Srt.done{ids:List UInt64}(h:Srt ids ids.length l)(a:ids.Nodup):l=risU ids:=by
 have hp:l.Perm ids:=(List.perm_ext_iff_of_nodup h.rise.nodup a).2 (λ y=>by rw[h.mem,DH]);rw[<- h.rise.ris];exact ZgW hp
structure QA(B:Nat)(w u:Ap)(d:Dk)(vf:Ar)(oa:Option Addr)(on oc:Nat)(vr vt:Ar)(st:St)(ba:Option Addr)(bvs:List RV)(ia:Option Addr)(ids:List UInt64):Prop where
 re:RE B u d vf oa on oc vr vt st
 bl:RdG encRv u ba bvs
 ids:RdG encU u ia ids
 bel:An B w u
theorem QA.next{w:World}{vf:Value}{vr vt:Value}{b:Option Addr}{ids:List UInt64}(h:QA B w u d vf oa on oc vr vt st ba bvs b ids)(a:An u.heap.size u u'):QA B w u' d vf oa on oc vr vt st ba bvs b ids :=
 ⟨h.re.next a,h.bl.below a,h.ids.below a,h.bel.trans (a.mono (Nat.le_of_lt h.re.box.lt))⟩
structure QO(B:Nat)(u:Ap)(ov:Ar)(st:St)(Q xs:List UInt64)(i:Nat)(vs:List RV):Prop where
 own:OwnG encRv 106 u B ov vs
 len:vs.length=i
 at_:∀(j:Nat) (v:RV) (x:UInt64),vs[j]? = some v->xs[j]? = some x->RvO u B v (st.row Q x 0)
 shut:∀x∈xs.take i,∀p∈(st.com x).ps,p∈Q
theorem QO.below{u u':Ap}{b:Ar}{xs:List UInt64}(h:QO B u b st Q xs i vs)(a:An u.heap.size u u'):QO B u' b st Q xs i vs :=
 ⟨h.own.below a,h.len,λ j v x c d=>(h.at_ j v x c d).below a,h.shut⟩
structure QR(uP u:Ap)(R:Nat)(id tree:UInt64)(date:Int)(fb:Bs)(Q:List UInt64)(ps:List UInt64)(k:Nat):Prop where
 bel:An uP.heap.size uP u
 low:uP.heap.size<=R
 row:∃pa pn pc,BoxA u R 106 #[Ab Al (id.toNat:Int),Ab Al (tree.toNat:Int),Ab Ak date,Aa pa pn pc,Ab Ak 0,tx fb]/\OwnG encI 3 u uP.heap.size (Aa pa pn pc) (pps Q (ps.take k))
 in_:∀p∈ps.take k,p∈Q
theorem QR.next{c:World}{R:Nat}{id tree:UInt64}{date:Int}{fb:Bs}{ps:List UInt64}{k:Nat}(h:QR c u R id tree date fb Q ps k)(a:An u.heap.size u u'):QR c u' R id tree date fb Q ps k:=by
 obtain⟨pa,pn,pc,b,d⟩:=h.row;exact⟨h.bel.trans (a.mono h.bel.size),h.low,⟨pa,pn,pc,b.below a b.lt,d.below a⟩,h.in_⟩
theorem ZmL{a:Option Addr}(h:RdG encU wr a l)(b:l.length=n)(d:n<=1000000)(x:UInt64)(r:Bool)(f:decide (x∈l)=r)(u:SW (Grew wr)):
  At Am 35 #[Aa a n c,Ab Al (x.toNat:Int)] u.w λ e w'=>e=Aj (Ad r)/\∃u':SW (Grew wr),w'=u'.w:=by
 refine(Zmw (h.below u.ok) b d x r f).mono ?_;rintro e w' ⟨rfl,rfl⟩;exact⟨rfl,u,rfl⟩
theorem ZhT{a:Option Addr}(h:RdG encRv wr a vs)(b:vs.length=n)(d:n<=1000000)(x:UInt64)(r:Int)(f:plI (vs.map (·.id)) x=r)(u:SW (Grew wr)):
  At Am 27 #[Aa a n c,Ab Al (x.toNat:Int)] u.w λ e w'=>e=Aj (Ab Ak r)/\∃u':SW (Grew wr),w'=u'.w:=by
 refine(Zcp (h.below u.ok) b d x r f).mono ?_;rintro e w' ⟨rfl,rfl⟩;exact⟨rfl,u,rfl⟩
theorem Zjb:Am.underlying 51=some (.slice 43):=by kernel_rfl
theorem infoRv:(Am.info? 106).map (λ i=>(i.zero,i.size,i.bytes))=some (some (Ag #[Ab Al 0,Ab Al 0,Ab Ak 0,Aa none 0 0,Ab Ak 0,Ae ⟨#[]⟩]),6,72):=by kernel_rfl
theorem sliceRv:Am.underlying 40=some (.slice 106):=by kernel_rfl
theorem ZpF:Am.elem 51=43:=by kernel_rfl
theorem Zel{vf vr vt:Ar}{ia:Option Addr}{bn bc:Nat}{ids:List UInt64}{G:List Int}{rk:Nat->Nat}
  (h:RdG encO w oa st.objs) (hl:st.objs.length=on) (aY:on<=1000000) (hb:∀o∈st.objs,o.body.length<=8192)
  (hB:RdG encRv w ba bvs) (aM:bvs.length=bn) (bk:∀v∈bvs,0<=v.gen/\v.gen<=250) (am:(bvs.map (·.id)).Nodup) (hI:RdG encU w ia ids) (hn:ids.length=n) (bp:n<=c) (hs:bn+n<=100000)
  (hG:st.free (bvs.map (·.id)) ids->Zaz bn (st.pss (bvs.map (·.id)++risU ids) (risU ids)) rk/\Gens (bvs.map (·.gen)) (st.pss (bvs.map (·.id)++risU ids) (risU ids)) G) :
  At Am 13 #[rm d vf (Aa oa on oc) vr vt,Aa ba bn bc,Aa ia n c] w λ e w'=>∃v r,e=Aj (.tuple #[v,Ab Ak r])/\Hid (∃vs rs,st.told (bvs.map (·.id)) G ids r rs/\OwnG encRv 106 w' w.heap.size v vs/\RvsO w' w.heap.size vs rs/\An w.heap.size w w'):=by
 obtain⟨b,aw⟩:=Xa w.heap.size
 obtain⟨m,aq⟩:=Xa (bvs.map (·.id))
 obtain⟨W0,aF⟩:=Xb (w.alloc (nineC d vf (Aa oa on oc) vr vt))
 have b0:An w.heap.size w W0:=by rw[aF];exact bz1 _ _
 have A0:Hid (QA b w W0 d vf oa on oc vr vt st ba bvs ia ids):=⟨by rw[aF,<- aw];exact RE.new h,hB.below b0,hI.below b0,by rw[<- aw];exact b0⟩
 rw[aq]at hG am
 have H:Hid (st.objs.length=on/\(∀o∈st.objs,o.body.length<=8192)/\bvs.length=bn/\(∀v∈bvs,0<=v.gen/\v.gen<=250)/\m.Nodup/\ids.length=n/\n<=c/\bvs.map (·.id)=m/\w.heap.size=b/\m.length=bn):=⟨hl,hb,aM,bk,am,hn,bp,aq,aw,by rw[<- aq,AQ];exact aM⟩
 have HG:Hid (st.free m ids->Zaz bn (st.pss (m++risU ids) (risU ids)) rk/\Gens (bvs.map (·.gen)) (st.pss (m++risU ids) (risU ids)) G):=hG
 have aC:Hid (RdG encRv w ba bvs/\RdG encO w oa st.objs/\RdG encU w ia ids):=⟨hB,h,hI⟩
 rw[aq,aw];clear h hl hb hB aM bk am hI hn hG aq b0;go_enter func13,ntmps13
 go_upto_region 1 with fail
 rw[<- aF];clear aF aw;go_wp2_with fail;go_loopg[8,9] n (λ k sv iv wr=>∃(i:Nat) (sa:Option Addr) (K sc:Nat),iv=Ab Ak i/\sv=Aa sa K sc/\i+k=n/\Hid (QA b w wr d vf oa on oc vr vt st ba bvs ia ids/\∃l,Srt ids i l/\l.length=K/\OwnG encU 43 wr 0 (Aa sa K sc) l/\(m++ids.take i).Nodup))
 case atStart=>exact⟨0,none,0,0,rfl,rfl,by omega,A0.o,[],Srt.zero ids,rfl,OwnG.nil _ _ _ _,by simpa using H.o.2.2.2.2.1⟩
 case round =>
  obtain⟨i,sa,K,sc,rfl,rfl,hi,I⟩:=hrel;clear A0;by_cases bI:i<n
  ·have id:(i:Int)<(n:Int):=by omega
   have b2:(0:Int)<=(i:Int):=by omega
   obtain⟨x,O⟩:∃x,ids[i]? = some x:=⟨_,Aq (by rw[H.o.2.2.2.2.2.1];exact bI)⟩
   obtain⟨hQ,l,l1,l2,l3,l4⟩:=I.o;obtain⟨xb,xo,rfl,_⟩:=hQ.ids.some_of O;have cx:=(hQ.ids.nums O).2;obtain⟨a3,c3,bZ,bH,_,bs⟩:=Zf6 encU 43 51 8 _ infoU Zjb ZpF (ao:=some ⟨xb,xo,none⟩) (n:=n) (c:=c) (k:=i) bp (by omega)
   have bv:(ids.take i).length=i:=by rw[AM];have:=H.o.2.2.2.2.2.1;omega
   obtain⟨f1,ac⟩:=Xa (decide (x∈ids.take i))
   obtain⟨r1,a4⟩:=Xa (plI m x)
   have D:Hid (ids[i]? = some x/\Srt ids i l/\l.length=K/\OwnG encU 43 wr 0 (Aa sa K sc) l/\(m++ids.take i).Nodup/\QA b w wr d vf oa on oc vr vt st ba bvs (some ⟨xb,xo,none⟩) ids/\decide (x∈ids.take i)=f1/\plI m x=r1):=⟨O,l1,l2,l3,l4,hQ,ac,a4⟩
   have q0:∀u:SW (Grew wr),u.w.cell? ⟨xb,xo+i,none⟩=some (Ab Al (x.toNat:Int)):=λ u=>((hQ.ids.below u.ok).nums O).2
   have aD:=λ u=>ZmL (c:=c3) (bs wr _ hQ.ids) bv (by omega) x f1 ac u
   have aE:=λ u=>ZhT (c:=bc) hQ.bl H.o.2.2.1 (by omega) x r1 (by rw[H.o.2.2.2.2.2.2.2.1];exact a4) u
   have NE:Nonempty (SW (Grew wr)):=⟨⟨wr,Ao _ wr⟩⟩
   clear I O l1 l2 l3 l4 hQ ac a4 cx bv bs bH
   go_upto_region 5 with fail
   go_cut[40] (λ tv u=>∃f,tv=Ad f/\Hid ((f=true↔x∈m++ids.take i)/\An wr.heap.size wr u))
   case first =>
    cases f1 with
    | true =>
     have s:Hid (x∈m++ids.take i):=AK.2 (.inr (by have:=D.o.2.2.2.2.2.2.1;simpa using this));refine Zab (S:=Grew wr) (by kernel_rfl) (by kernel_rfl) (Ao _ wr).drew ?_
     repeat(go_big_quiet_step (first | with_reducible exact aD _ | with_reducible exact aE _))
     refine AN ?_;intro _ U;obtain⟨u,E⟩:=U;subst E;go_wp2_with fail;go_meet;exact⟨_,rfl,⟨λ _=>s.o,λ _=>rfl⟩,u.ok⟩
    | false =>
     by_cases hr:0<=r1
     ·have s:Hid (x∈m++ids.take i):=AK.2 (.inl (Zer.1 (by rw[D.o.2.2.2.2.2.2.2];exact hr)))
      have bN:decide ((0:Int)<=r1)=true:=by simpa using hr
      refine Zab (S:=Grew wr) (by kernel_rfl) (by kernel_rfl) (Ao _ wr).drew ?_
      repeat(go_big_quiet_step (first | with_reducible exact aD _ | with_reducible exact aE _))
      refine AN ?_;intro _ U;obtain⟨u,E⟩:=U;subst E;go_wp2_with fail;go_meet;exact⟨_,rfl,⟨λ _=>s.o,λ _=>rfl⟩,u.ok⟩
     ·have s:Hid (¬x∈m++ids.take i):=λ q=>by
       rcases AK.1 q with q|q
       ·exact absurd (Zer.2 q) (by rw[D.o.2.2.2.2.2.2.2];exact hr)
       ·have:=D.o.2.2.2.2.2.2.1;rw[Ax]at this;exact absurd q this
      have bN:decide ((0:Int)<=r1)=false:=by simpa using hr
      refine Zab (S:=Grew wr) (by kernel_rfl) (by kernel_rfl) (Ao _ wr).drew ?_
      repeat(go_big_quiet_step (first | with_reducible exact aD _ | with_reducible exact aE _))
      refine AN ?_;intro _ U;obtain⟨u,E⟩:=U;subst E;go_wp2_with fail;go_meet;exact⟨_,rfl,⟨λ q=>(by cases q),λ q=>absurd q s.o⟩,u.ok⟩
   case rest =>
    obtain⟨f,rfl,HF⟩:=hcut;clear aD aE NE q0;have hQ:=D.o.2.2.2.2.2.1.next HF.o.2
    cases f with
    | true =>
     have s:Hid (∃vs rs,st.told m G ids 6 rs/\OwnG encRv 106 wc b (Aa none 0 0) vs/\RvsO wc b vs rs/\An b w wc):=by
      refine⟨[],[],.twice (λ q=>?_),OwnG.nil _ _ _ _,RvsO.nil _ _,hQ.bel⟩;have hm:=HF.o.1.1 rfl
      have A:ids.take (i+1)=ids.take i++[x]:=by rw[AO,D.o.1];rfl
      rw[<- Ch (i+1) ids,A,<- A9,<- A9]at q;exact(Cg.1 (Cg.1 q).1).2.2 x hm x (by simp) rfl
     clear HF hQ;go_wp2_with fail;refine As (AA rfl _ _ _) rfl ?_;exact⟨_,_,rfl,s.o⟩
    | false =>
     have bq:¬x∈m++ids.take i:=λ q=>Bool.noConfusion (HF.o.1.2 q)
     have cx:=(hQ.ids.nums D.o.1).2;have bx:=Zpg (c:=sc) (D.o.2.2.2.1.below HF.o.2).rdc.1 D.o.2.2.1 (by have:=D.o.2.1.len;have:=D.o.2.2.1;omega) D.o.2.1.rise x
     have HQ:Hid (QA b w wc d vf oa on oc vr vt st ba bvs (some ⟨xb,xo,none⟩) ids/\(m++ids.take (i+1)).Nodup):=by
      refine⟨hQ,?_⟩
      have A:ids.take (i+1)=ids.take i++[x]:=by rw[AO,D.o.1];rfl
      rw[A,<- A9];exact Ze2 D.o.2.2.2.2.1 bq
     clear hQ bq HF;go_wp2_with fail;refine bx.mono ?_;rintro e w2 ⟨a2,n2,c2,rfl,J2⟩
     have s:Hid (QA b w w2 d vf oa on oc vr vt st ba bvs (some ⟨xb,xo,none⟩) ids/\∃l,Srt ids (i+1) l/\l.length=n2/\OwnG encU 43 w2 0 (Aa a2 n2 c2) l/\(m++ids.take (i+1)).Nodup):=by
      obtain⟨l',j1,j2,j3⟩:=J2.o;exact⟨HQ.o.1.next j3,l',D.o.2.1.next D.o.1 j1,Zam j2,j2.low (BG _),HQ.o.2⟩
     clear J2 bx cx;go_wp2_with fail;go_roundg (gk - 1)
     case measure=>omega
     case rel=>exact⟨i+1,a2,n2,c2,by go_num,rfl,by omega,s.o⟩
  ·obtain rfl:i=n:=by omega
   have id:¬(i:Int)<(i:Int):=by omega
   have G1:Hid (QA b w wr d vf oa on oc vr vt st ba bvs ia ids/\(risU ids).length=K/\OwnG encU 43 wr 0 (Aa sa K sc) (risU ids)/\(m++ids).Nodup/\∀x∈ids.take 0,st.has 3 x=true):=by
    obtain⟨hQ,l,l1,l2,l3,l4⟩:=I.o;have hl:=H.o.2.2.2.2.2.1;rw[Av (by rw[hl];exact Az _)]at l4;have e:=(show Srt ids ids.length l by rw[hl];exact l1).done (Cg.1 l4).2.1;rw[e]at l2 l3;exact⟨hQ,l2,l3,l4,by simp⟩
   clear I;go_wp2_with fail;go_loopg[10] i (λ k v wr=>∃j:Nat,v=Ab Ak j/\j+k=i/\Hid (QA b w wr d vf oa on oc vr vt st ba bvs ia ids/\(risU ids).length=K/\OwnG encU 43 wr 0 (Aa sa K sc) (risU ids)/\(m++ids).Nodup/\∀x∈ids.take j,st.has 3 x=true))
   case atStart=>exact⟨0,rfl,by omega,G1.o⟩
   case round =>
    obtain⟨j,rfl,hj,I⟩:=hrel;clear G1;by_cases bJ:j<i
    ·have jd:(j:Int)<(i:Int):=by omega
     have b3:(0:Int)<=(j:Int):=by omega
     obtain⟨x,O⟩:∃x,ids[j]? = some x:=⟨_,Aq (by rw[H.o.2.2.2.2.2.1];exact bJ)⟩
     obtain⟨xb,xo,rfl,_⟩:=I.o.1.ids.some_of O
     have q9:∀u:SW (Grew wr),u.w.cell? ⟨xb,xo+j,none⟩=some (Ab Al (x.toNat:Int)):=λ u=>((I.o.1.ids.below u.ok).nums O).2
     have T:=I.o.1.re
     have q0:∀u:SW (Grew wr),u.w.cell? ⟨b,0,none⟩=some vf:=λ u=>(T.next u.ok).box.cells.1
     have q1:∀u:SW (Grew wr),u.w.cell? ⟨b,1,none⟩=some (Ab Ak (d.writes:Int)):=λ u=>(T.next u.ok).box.cells.2.1
     have q2:∀u:SW (Grew wr),u.w.cell? ⟨b,2,none⟩=some (Ad d.armed):=λ u=>(T.next u.ok).box.cells.2.2.1
     have q3:∀u:SW (Grew wr),u.w.cell? ⟨b,3,none⟩=some (Ad d.dead):=λ u=>(T.next u.ok).box.cells.2.2.2.1
     have q4:∀u:SW (Grew wr),u.w.cell? ⟨b,4,none⟩=some (Ab Ak (d.after:Int)):=λ u=>(T.next u.ok).box.cells.2.2.2.2.1
     have q5:∀u:SW (Grew wr),u.w.cell? ⟨b,5,none⟩=some (Ab Ak (d.keep:Int)):=λ u=>(T.next u.ok).box.cells.2.2.2.2.2.1
     have q6:∀u:SW (Grew wr),u.w.cell? ⟨b,6,none⟩=some (Aa oa on oc):=λ u=>(T.next u.ok).box.cells.2.2.2.2.2.2.1
     have q7:∀u:SW (Grew wr),u.w.cell? ⟨b,7,none⟩=some vr:=λ u=>(T.next u.ok).box.cells.2.2.2.2.2.2.2.1
     have q8:∀u:SW (Grew wr),u.w.cell? ⟨b,8,none⟩=some vt:=λ u=>(T.next u.ok).box.cells.2.2.2.2.2.2.2.2
     obtain⟨f1,ac⟩:=Xa (st.has 3 x)
     have hL:=λ u=>Zgd (oc:=oc) (d:=d) (vf:=vf) (vr:=vr) (vt:=vt) T.ob H.o.1 aY 3 x f1 ac u
     have NE:Nonempty (SW (Grew wr)):=⟨⟨wr,Ao _ wr⟩⟩
     have D:Hid (ids[j]? = some x/\st.has 3 x=f1):=⟨O,ac⟩
     clear O ac T
     go_upto_region 11 with fail
     go_cut[59] (λ tv u=>tv=Ad (!f1)/\Hid (An wr.heap.size wr u))
     case first =>
      refine Zab (S:=Grew wr) (by kernel_rfl) (by kernel_rfl) (Ao _ wr).drew ?_
      repeat(go_big_quiet_step (with_reducible exact hL _))
      refine AN ?_;intro _ U;obtain⟨u,E⟩:=U;subst E;go_wp2_with fail;go_meet;exact⟨rfl,u.ok⟩
     case rest =>
      obtain⟨rfl,HF⟩:=hcut;clear hL NE q0 q1 q2 q3 q4 q5 q6 q7 q8 q9;have hQ:=I.o.1.next HF.o
      cases f1 with
      | false =>
       have s:Hid (∃vs rs,st.told m G ids 5 rs/\OwnG encRv 106 wc b (Aa none 0 0) vs/\RvsO wc b vs rs/\An b w wc) :=
        ⟨[],[],.missing I.o.2.2.2.1 (λ q=>Bool.noConfusion ((q x (AY D.o.1)).symm.trans D.o.2)),OwnG.nil _ _ _ _,RvsO.nil _ _,hQ.bel⟩
       clear HF hQ;go_wp2_with fail;refine As (AA rfl _ _ _) rfl ?_;exact⟨_,_,rfl,s.o⟩
      | true =>
       have s:Hid (QA b w wc d vf oa on oc vr vt st ba bvs (some ⟨xb,xo,none⟩) ids/\(risU ids).length=K/\OwnG encU 43 wc 0 (Aa sa K sc) (risU ids)/\(m++ids).Nodup/\∀x∈ids.take (j+1),st.has 3 x=true):=by
        refine⟨hQ,I.o.2.1,I.o.2.2.1.below HF.o,I.o.2.2.2.1,λ y hy=>?_⟩;rw[AO,D.o.1]at hy
        rcases AK.1 hy with q|q
        ·exact I.o.2.2.2.2 y q
        ·have q':y=x:=by simpa using q
         rw[q'];exact D.o.2
       clear HF hQ;go_wp2_with fail;go_roundg (gk - 1)
       case measure=>omega
       case rel=>exact⟨j+1,by go_num,by omega,s.o⟩
    ·obtain rfl:j=i:=by omega
     have jd:¬(j:Int)<(j:Int):=by omega
     obtain⟨xs,ay⟩:=Xa (risU ids)
     have aH:∀x∈ids,st.has 3 x=true:=by
      have h:=I.o.2.2.2.2;rw[Av (by rw[H.o.2.2.2.2.2.1];exact Az _)]at h;exact h
     have P:Hid ((m++ids).Nodup/\(∀x∈ids,st.has 3 x=true)/\xs.length=K/\risU ids=xs/\(m++xs).Nodup/\K=j):=by
      refine⟨I.o.2.2.2.1,aH,by rw[<- ay];exact I.o.2.1,ay,by rw[<- ay];exact ZbS.2 I.o.2.2.2.1,?_⟩;have N:=I.o.2.1;have h2:=H.o.2.2.2.2.2.1;rw[Zb7]at N;omega
     have L0:Hid (QA b w wr d vf oa on oc vr vt st ba bvs ia ids/\OwnG encU 43 wr 0 (Aa sa K sc) xs/\∃vs,QO b wr (Aa none 0 0) st (m++xs) xs 0 vs):=⟨I.o.1,by rw[<- ay];exact I.o.2.2.1,[],OwnG.nil _ _ _ _,rfl,λ j v x h=>by simp at h,by simp⟩
     have b1:K<=100000:=by have:=P.o.2.2.2.2.2;omega
     clear I aH ay;go_wp2_with fail;go_loopg[11,12] K (λ k ov iv wr=>∃q:Nat,iv=Ab Ak q/\q+k=K/\Hid (QA b w wr d vf oa on oc vr vt st ba bvs ia ids/\OwnG encU 43 wr 0 (Aa sa K sc) xs/\∃vs,QO b wr ov st (m++xs) xs q vs))
     case atStart=>exact⟨0,rfl,by omega,L0.o⟩
     case round =>
      obtain⟨q,rfl,hq,I⟩:=hrel;clear L0;by_cases bM:q<K
      ·have qd:(q:Int)<(K:Int):=by omega
       have b5:(0:Int)<=(q:Int):=by omega
       obtain⟨go,aT⟩:=Xb gk
       rw[<- aT]at hq;have GO:Hid (go=gk):=aT;clear aT
       obtain⟨x,O⟩:∃x,xs[q]? = some x:=⟨_,Aq (by rw[P.o.2.2.1];exact bM)⟩
       obtain⟨xb,xo,rfl,_⟩:=I.o.2.1.rdc.1.some_of O
       obtain⟨cm,aN⟩:=Xa (st.com x)
       obtain⟨tr,a6⟩:=Xa cm.tree
       obtain⟨dt,aP⟩:=Xa cm.date
       obtain⟨pn,aZ⟩:=Xa cm.ps.length
       obtain⟨nt,br⟩:∃nt:ByteArray,(⟨cm.note.toArray⟩:ByteArray)=nt:=⟨_,rfl⟩
       have aS:∀u,An wr.heap.size wr u->_:=λ u hu=>Zn4 (vf:=vf) (d:=d) (vr:=vr) (vt:=vt) (oc:=oc) (I.o.1.re.next hu).ob H.o.1 aY H.o.2.1 x cm aN
       rw[a6,aP,aZ,show tx cm.note=Ae nt by rw[<- br]]at aS;have QG:Hid _:=aS
       have D:Hid (xs[q]? = some x/\st.com x=cm/\cm.tree=tr/\cm.date=dt/\cm.ps.length=pn):=⟨O,aN,a6,aP,aZ⟩
       have V:Hid (∀u,An wr.heap.size wr u->u.cell? ⟨b,0,none⟩=some vf/\u.cell? ⟨b,1,none⟩=some (Ab Ak (d.writes:Int))/\u.cell? ⟨b,2,none⟩=some (Ad d.armed)/\u.cell? ⟨b,3,none⟩=some (Ad d.dead)/\u.cell? ⟨b,4,none⟩=some (Ab Ak (d.after:Int))/\u.cell? ⟨b,5,none⟩=some (Ab Ak (d.keep:Int))/\u.cell? ⟨b,6,none⟩=some (Aa oa on oc)/\u.cell? ⟨b,7,none⟩=some vr/\u.cell? ⟨b,8,none⟩=some vt/\u.cell? ⟨xb,xo+q,none⟩=some (Ab Al (x.toNat:Int))):=by
        intro u hu;obtain⟨k0,k1,k2,k3,k4,k5,k6,k7,k8⟩:=(I.o.1.re.next hu).box.cells;exact⟨k0,k1,k2,k3,k4,k5,k6,k7,k8,((I.o.2.1.below hu).rdc.1.nums O).2⟩
       clear O aN a6 aP aZ br aS
       go_upto_region 17 with fail
       go_cut[13] (λ pv u=>Hid (∃Z pa pc,pv=.pointer (some ⟨Z,0,none⟩)/\BoxA u Z 101 #[Ab Al (tr.toNat:Int),Aa pa pn pc,Ab Ak dt,Ae nt]/\RdG encU u pa cm.ps/\An wr.heap.size wr u))
       case first =>
        have V0:Hid (An wr.heap.size wr wr.drew):=(Ao _ wr).drew
        have L:Hid (An wr.heap.size wr (wr.alloc (Ai #[Ab Al 0,Aa none 0 0,Ab Ak 0,Ae ⟨#[]⟩] 101)).drew/\BoxA (wr.alloc (Ai #[Ab Al 0,Aa none 0 0,Ab Ak 0,Ae ⟨#[]⟩] 101)).drew wr.heap.size 101 #[Ab Al 0,Aa none 0 0,Ab Ak 0,Ae ⟨#[]⟩]):=⟨(bz1 wr _).drew,ZfI _ _ _⟩
        have a8:=V.o _ V0.o;have az:=V.o _ L.o.1
        go_region_held3 (λ u=>u.cell? ⟨b,0,none⟩=some vf/\u.cell? ⟨b,1,none⟩=some (Ab Ak (d.writes:Int))/\u.cell? ⟨b,2,none⟩=some (Ad d.armed)/\u.cell? ⟨b,3,none⟩=some (Ad d.dead)/\u.cell? ⟨b,4,none⟩=some (Ab Ak (d.after:Int))/\u.cell? ⟨b,5,none⟩=some (Ab Ak (d.keep:Int))/\u.cell? ⟨b,6,none⟩=some (Aa oa on oc)/\u.cell? ⟨b,7,none⟩=some vr/\u.cell? ⟨b,8,none⟩=some vt/\u.cell? ⟨xb,xo+q,none⟩=some (Ab Al (x.toNat:Int)))
         (first | with_reducible exact a8 | with_reducible exact az | with_reducible exact aA | with_reducible exact bA | with_reducible exact aB | with_reducible exact bz | go_keep)
         (first
          | (go_at_call 38;(with_reducible refine(QG.o _ V0.o).mono ?_);rintro e F ⟨qa,qc,rfl,X1⟩;have M:Hid (An wr.heap.size wr F):=V0.o.trans (X1.o.2.2.1.mono V0.o.size);have aA:=V.o _ M.o;have aB:=V.o _ (M.o.trans ((bz1 F (Ai #[Ab Al 0,Aa none 0 0,Ab Ak 0,Ae ⟨#[]⟩] 101)).mono M.o.size));have bA:=V.o _ (M.o.trans ((bz1 F (Ai #[Ab Al (tr.toNat:Int),Aa qa pn qc,Ab Ak dt,Ae nt] 101)).mono M.o.size)))
          | (go_at_call 38;(with_reducible refine(QG.o _ L.o.1).mono ?_);rintro e F ⟨qa,qc,rfl,X1⟩;have M:Hid (An wr.heap.size wr F):=L.o.1.trans (X1.o.2.2.1.mono L.o.1.size);have aA:=V.o _ M.o;have bz:=V.o _ (Zcb M.o M.o.size (Az _) (Ab Al (tr.toNat:Int)) (Aa qa pn qc) (Ab Ak dt) (Ae nt));have C:=L.o.2.below X1.o.2.2.1 L.o.2.lt;have XH:Hid _:=C;have s0:=C.cell (j:=0) rfl;have s1:=C.cell (j:=1) rfl;have s2:=C.cell (j:=2) rfl;have s3:=C.cell (j:=3) rfl;have f0:=C.thaw 0;have f1:=C.thaw 1;have f2:=C.thaw 2;have f3:=C.thaw 3;clear C))
        all_goals
         go_wp2_with fail;go_meet
         first
          | exact⟨_,qa,qc,rfl,Zjl XH.o _ _ _ _,X1.o.1.turned (Zal (W:=F) wr.heap.size [Ab Al (tr.toNat:Int),Aa qa pn qc,Ab Ak dt,Ae nt] 0) (λ h0 p hp e=>by
            have N:=X1.o.2.2.2 (by have:=D.o.2.2.2.2;omega) p hp;have h2:=L.o.2.lt;have e':p.block=wr.heap.size:=e
            omega),Zcb M.o M.o.size (Az _) _ _ _ _⟩
          | exact⟨_,qa,qc,rfl,BoxA.new F _ _,X1.o.1.below (bz1 F _),M.o.trans ((bz1 F _).mono M.o.size)⟩
       case rest =>
        obtain⟨Z,pa,pc,a1,hZ,bg,ab⟩:=hcut.o;subst a1
        have HP:Hid (QA b w wc d vf oa on oc vr vt st ba bvs ia ids/\OwnG encU 43 wc 0 (Aa (some ⟨xb,xo,none⟩) K sc) xs/\BoxA wc Z 101 #[Ab Al (tr.toNat:Int),Aa pa pn pc,Ab Ak dt,Ae nt]/\RdG encU wc pa cm.ps/\∃vs,QO b wc _ st (m++xs) xs q vs):=⟨I.o.1.next ab,I.o.2.1.below ab,hZ,bg,by obtain⟨vs,h⟩:=I.o.2.2;exact⟨vs,h.below ab⟩⟩
        clear hcut QG V hZ bg ab I
        obtain⟨B,ax⟩:=Xa wc
        rw[ax]at HP ⊢;clear ax
        obtain⟨fb,aQ⟩:=Xa (st.fil cm)
        obtain⟨fs,aR⟩:∃fs:ByteArray,(⟨fb.toArray⟩:ByteArray)=fs:=⟨_,rfl⟩
        obtain⟨cn,aO⟩:=Xa ((st.chg cm).length)
        have QC:Hid (∀u,An B.heap.size B u->At Am 40 #[rm d vf (Aa oa on oc) vr vt,Ab Al (x.toNat:Int)] u λ e w'=>∃a c,e=Aj (Aa a cn c)/\Hid (Rd w' a (st.chg cm)/\An u.heap.size u w')):=by
         intro u hu;refine(Zgh (vf:=vf) (d:=d) (vr:=vr) (vt:=vt) (oc:=oc) (HP.o.1.re.next hu).ob H.o.1 aY H.o.2.1 x).mono ?_;rintro e w' ⟨v,rfl,J⟩;have ho:=J.o.1;rw[D.o.2.1]at ho;obtain⟨a,c,rfl,_,_,r⟩:=ho.form;exact⟨a,c,by rw[aO],r,J.o.2⟩
        have QM:Hid (∀u a c,Rd u a (st.chg cm)->At Am 39 #[Aa a cn c] u λ e w'=>e=Aj (Ae fs)/\An u.heap.size u w'):=by
         intro u a c hr;refine(Zm8 (c:=c) u hr aO (by have:=(ZgX st cm).1;omega)).mono ?_;rintro e w' ⟨rfl,J⟩;refine⟨?_,J⟩;rw[<- aR,<- aQ]
         rfl
        have HF:Hid (st.fil cm=fb/\(⟨fb.toArray⟩:ByteArray)=fs):=⟨aQ,aR⟩
        have V:Hid (∀u,An B.heap.size B u->u.cell? ⟨b,0,none⟩=some vf/\u.cell? ⟨b,1,none⟩=some (Ab Ak (d.writes:Int))/\u.cell? ⟨b,2,none⟩=some (Ad d.armed)/\u.cell? ⟨b,3,none⟩=some (Ad d.dead)/\u.cell? ⟨b,4,none⟩=some (Ab Ak (d.after:Int))/\u.cell? ⟨b,5,none⟩=some (Ab Ak (d.keep:Int))/\u.cell? ⟨b,6,none⟩=some (Aa oa on oc)/\u.cell? ⟨b,7,none⟩=some vr/\u.cell? ⟨b,8,none⟩=some vt/\u.cell? ⟨xb,xo+q,none⟩=some (Ab Al (x.toNat:Int))/\u.cell? ⟨Z,0,none⟩=some (Ab Al (tr.toNat:Int))/\u.cell? ⟨Z,2,none⟩=some (Ab Ak dt)):=by
         intro u hu;obtain⟨k0,k1,k2,k3,k4,k5,k6,k7,k8⟩:=(HP.o.1.re.next hu).box.cells;have hz:=HP.o.2.2.1.below hu HP.o.2.2.1.lt;exact⟨k0,k1,k2,k3,k4,k5,k6,k7,k8,((HP.o.2.1.below hu).rdc.1.nums D.o.1).2,hz.cell (j:=0) rfl,hz.cell (j:=2) rfl⟩
        clear aQ aR aO
        go_upto_region 18 with fail
        go_cut[14] (λ pv u=>Hid (∃R,pv=.pointer (some ⟨R,0,none⟩)/\B.heap.size<=R/\BoxA u R 106 #[Ab Al (x.toNat:Int),Ab Al (tr.toNat:Int),Ab Ak dt,Aa none 0 0,Ab Ak 0,Ae fs]/\An B.heap.size B u))
        case first =>
         have V0:Hid (An B.heap.size B B.drew):=(Ao _ B).drew
         have L:Hid (An B.heap.size B (B.alloc (Ai #[Ab Al 0,Ab Al 0,Ab Ak 0,Aa none 0 0,Ab Ak 0,Ae ⟨#[]⟩] 106)).drew/\BoxA (B.alloc (Ai #[Ab Al 0,Ab Al 0,Ab Ak 0,Aa none 0 0,Ab Ak 0,Ae ⟨#[]⟩] 106)).drew B.heap.size 106 #[Ab Al 0,Ab Al 0,Ab Ak 0,Aa none 0 0,Ab Ak 0,Ae ⟨#[]⟩]):=⟨(bz1 B _).drew,ZfI _ _ _⟩
         have a8:=V.o _ V0.o;have az:=V.o _ L.o.1
         go_region_held3 (λ u=>u.cell? ⟨b,0,none⟩=some vf/\u.cell? ⟨b,1,none⟩=some (Ab Ak (d.writes:Int))/\u.cell? ⟨b,2,none⟩=some (Ad d.armed)/\u.cell? ⟨b,3,none⟩=some (Ad d.dead)/\u.cell? ⟨b,4,none⟩=some (Ab Ak (d.after:Int))/\u.cell? ⟨b,5,none⟩=some (Ab Ak (d.keep:Int))/\u.cell? ⟨b,6,none⟩=some (Aa oa on oc)/\u.cell? ⟨b,7,none⟩=some vr/\u.cell? ⟨b,8,none⟩=some vt/\u.cell? ⟨xb,xo+q,none⟩=some (Ab Al (x.toNat:Int))/\u.cell? ⟨Z,0,none⟩=some (Ab Al (tr.toNat:Int))/\u.cell? ⟨Z,2,none⟩=some (Ab Ak dt))
          (first | with_reducible exact a8 | with_reducible exact az | with_reducible exact aA | with_reducible exact aB | with_reducible exact a9 | with_reducible exact bC | with_reducible exact bB | with_reducible exact aJ | go_keep)
          (first
           | (go_at_call 39;(with_reducible refine(QM.o _ ca cc aj.o.2.2).mono ?_);rintro e w5 ⟨rfl,X2⟩;have V2:Hid (An B.heap.size B w5):=aj.o.1.trans (X2.mono aj.o.1.size);have a9:=V.o _ V2.o;have C:=aj.o.2.1.below X2 aj.o.2.1.lt;have bE:Hid _:=C;have s0:=C.cell (j:=0) rfl;have s1:=C.cell (j:=1) rfl;have s2:=C.cell (j:=2) rfl;have s3:=C.cell (j:=3) rfl;have s4:=C.cell (j:=4) rfl;have s5:=C.cell (j:=5) rfl;have f0:=C.thaw 0;have f1:=C.thaw 1;have f2:=C.thaw 2;have f3:=C.thaw 3;have f4:=C.thaw 4;have f5:=C.thaw 5;have aJ:=V.o _ (Zbp V2.o V2.o.size M.o.1.size (Ab Al (x.toNat:Int)) (Ab Al (tr.toNat:Int)) (Ab Ak dt) (Aa none 0 0) (Ab Ak 0) (Ae fs));clear C)
           | (go_at_call 39;(with_reducible refine(QM.o _ ca cc M.o.2).mono ?_);have XB:=bF.o;rintro e w5 ⟨rfl,X2⟩;have V2:Hid (An B.heap.size B w5):=M.o.1.trans (X2.mono M.o.1.size);have a9:=V.o _ V2.o;have C:=XB.below X2 XB.lt;have bD:Hid _:=C;have s0:=C.cell (j:=0) rfl;have s1:=C.cell (j:=1) rfl;have s2:=C.cell (j:=2) rfl;have s3:=C.cell (j:=3) rfl;have s4:=C.cell (j:=4) rfl;have s5:=C.cell (j:=5) rfl;have f0:=C.thaw 0;have f1:=C.thaw 1;have f2:=C.thaw 2;have f3:=C.thaw 3;have f4:=C.thaw 4;have f5:=C.thaw 5;have aJ:=V.o _ (Zbp V2.o V2.o.size (Az _) (Ab Al (x.toNat:Int)) (Ab Al (tr.toNat:Int)) (Ab Ak dt) (Aa none 0 0) (Ab Ak 0) (Ae fs));clear C XB)
           | (go_at_call 39;(with_reducible refine(QM.o _ ca cc M.o.2).mono ?_);rintro e w5 ⟨rfl,X2⟩;have V2:Hid (An B.heap.size B w5):=M.o.1.trans (X2.mono M.o.1.size);have a9:=V.o _ V2.o;have bC:=V.o _ (V2.o.trans ((bz1 w5 (Ai #[Ab Al 0,Ab Al 0,Ab Ak 0,Aa none 0 0,Ab Ak 0,Ae ⟨#[]⟩] 106)).mono V2.o.size));have bB:=V.o _ (V2.o.trans ((bz1 w5 (Ai #[Ab Al (x.toNat:Int),Ab Al (tr.toNat:Int),Ab Ak dt,Aa none 0 0,Ab Ak 0,Ae fs] 106)).mono V2.o.size)))
           | (go_at_call 40;(with_reducible refine(QC.o _ V0.o).mono ?_);rintro e F ⟨ca,cc,rfl,X1⟩;have M:Hid (An B.heap.size B F/\Rd F ca (st.chg cm)):=⟨V0.o.trans (X1.o.2.mono V0.o.size),X1.o.1⟩;have aA:=V.o _ M.o.1;have aj:Hid (An B.heap.size B (F.alloc (Ai #[Ab Al 0,Ab Al 0,Ab Ak 0,Aa none 0 0,Ab Ak 0,Ae ⟨#[]⟩] 106))/\BoxA (F.alloc (Ai #[Ab Al 0,Ab Al 0,Ab Ak 0,Aa none 0 0,Ab Ak 0,Ae ⟨#[]⟩] 106)) F.heap.size 106 #[Ab Al 0,Ab Al 0,Ab Ak 0,Aa none 0 0,Ab Ak 0,Ae ⟨#[]⟩]/\Rd (F.alloc (Ai #[Ab Al 0,Ab Al 0,Ab Ak 0,Aa none 0 0,Ab Ak 0,Ae ⟨#[]⟩] 106)) ca (st.chg cm)):=⟨M.o.1.trans ((bz1 F _).mono M.o.1.size),BoxA.new _ _ _,X1.o.1.below (bz1 F _)⟩;have aB:=V.o _ aj.o.1)
           | (go_at_call 40;(with_reducible refine(QC.o _ L.o.1).mono ?_);rintro e F ⟨ca,cc,rfl,X1⟩;have M:Hid (An B.heap.size B F/\Rd F ca (st.chg cm)):=⟨L.o.1.trans (X1.o.2.mono L.o.1.size),X1.o.1⟩;have aA:=V.o _ M.o.1;have bF:Hid (BoxA F B.heap.size 106 #[Ab Al 0,Ab Al 0,Ab Ak 0,Aa none 0 0,Ab Ak 0,Ae ⟨#[]⟩]):=L.o.2.below X1.o.2 L.o.2.lt))
         all_goals
          go_wp2_with fail;go_meet
          first
           | exact⟨_,rfl,Az _,Zjm bD.o _ _ _ _ _ _,Zbp V2.o V2.o.size (Az _) _ _ _ _ _ _⟩
           | exact⟨_,rfl,M.o.1.size,Zjm bE.o _ _ _ _ _ _,Zbp V2.o V2.o.size M.o.1.size _ _ _ _ _ _⟩
           | exact⟨_,rfl,V2.o.size,BoxA.new w5 _ _,V2.o.trans ((bz1 w5 _).mono V2.o.size)⟩
        case rest =>
         obtain⟨R,a1,bh,hR,ab⟩:=hcut.o;subst a1
         have bf:Hid (tx fb=Ae fs):=by show tx fb=_;rw[<- HF.o.2]
         have L4:Hid (QR B wc R x tr dt fb (m++xs) cm.ps 0):=by
          refine⟨ab,bh,⟨none,0,0,?_,OwnG.nil _ _ _ _⟩,by simp⟩;rw[bf.o];exact hR
         clear hcut QC QM V ab hR bh bf
         have bV:pn<=8:=by rw[<- D.o.2.2.2.2,<- D.o.2.1];exact Zg3 st x
         have KU:Hid (∀u,An B.heap.size B u->QA b w u d vf oa on oc vr vt st ba bvs ia ids/\OwnG encU 43 u 0 (Aa (some ⟨xb,xo,none⟩) K sc) xs/\u.cell? ⟨Z,1,none⟩=some (Aa pa pn pc)/\RdG encU u pa cm.ps):=λ u hu=>⟨HP.o.1.next hu,HP.o.2.1.below hu,(HP.o.2.2.1.below hu HP.o.2.2.1.lt).cell (j:=1) rfl,HP.o.2.2.2.1.below hu⟩
         go_wp2_with fail;go_loopg[15] pn (λ k v u=>∃t:Nat,v=Ab Ak t/\t+k=pn/\Hid (QR B u R x tr dt fb (m++xs) cm.ps t))
         case atStart=>exact⟨0,rfl,by omega,L4.o⟩
         case round =>
          obtain⟨t,rfl,ht,HT⟩:=hrel;clear L4;obtain⟨kA,kB,kC,kD⟩:=KU.o wr HT.o.bel;by_cases bP:t<pn
          ·have td:(t:Int)<(pn:Int):=by omega
           have b6:(0:Int)<=(t:Int):=by omega
           obtain⟨gt,aU⟩:=Xb gk
           rw[<- aU]at ht;have GT:Hid (gt=gk):=aU;clear aU
           obtain⟨p,hp⟩:∃p,cm.ps[t]? = some p:=⟨_,Aq (by rw[D.o.2.2.2.2];exact bP)⟩
           obtain⟨pb,po,rfl,_⟩:=kD.some_of hp;have cp:=(kD.nums hp).2
           obtain⟨a0,aL⟩:=Xa (plI m p)
           have ap:=Zcp (c:=bc) kA.bl H.o.2.2.1 (by omega) p a0 (by rw[H.o.2.2.2.2.2.2.2.1];exact aL)
           have ai:Hid (cm.ps[t]? = some p/\plI m p=a0):=⟨hp,aL⟩
           clear kA kB kD hp aL;go_wp2_with fail;refine ap.mono ?_;rintro e w6 ⟨rfl,rfl⟩;clear ap kC cp;go_wp2_with fail;go_loopg[16,17] K (λ k av v u=>∃(z:Nat) (a:Int),v=Ab Ak z/\av=Ab Ak a/\z+k=K /\ -1<=a/\a<=1000000/\Hid (a=plI (m++xs.take z) p/\An w6.heap.size w6 u))
           case atStart =>
            refine⟨0,a0,rfl,rfl,by omega,?_,?_,?_,Ao _ _⟩
            ·rw[<- ai.o.2];unfold plI
             split <;> omega
            ·rw[<- ai.o.2];unfold plI;have N:=H.o.2.2.2.2.2.2.2.2.2;have h2:m.idxOf p<=m.length:=List.idxOf_le_length
             split <;> omega
            ·rw[<- ai.o.2];simp
           case round =>
            obtain⟨z,a,rfl,rfl,hz,bW,bX,HZ⟩:=hrel;have X:=HT.o.bel.trans (HZ.o.2.mono HT.o.bel.size);by_cases bS:z<K
            ·have zd:(z:Int)<(K:Int):=by omega
             have b7:(0:Int)<=(z:Int):=by omega
             obtain⟨y,hy⟩:∃y,xs[z]? = some y:=⟨_,Aq (by rw[P.o.2.2.1];exact bS)⟩
             have q0:∀u:SW (Grew wr),u.w.cell? ⟨xb,xo+z,none⟩=some (Ab Al (y.toNat:Int)):=λ u=>(((KU.o wr X).2.1.below u.ok).rdc.1.nums hy).2
             have q1:∀u:SW (Grew wr),u.w.cell? ⟨Z,1,none⟩=some (Aa (some ⟨pb,po,none⟩) pn pc):=λ u=>(KU.o u.w (X.trans (u.ok.mono X.size))).2.2.1
             have q2:∀u:SW (Grew wr),u.w.cell? ⟨pb,po+t,none⟩=some (Ab Al (p.toNat:Int)):=λ u=>((KU.o u.w (X.trans (u.ok.mono X.size))).2.2.2.nums ai.o.1).2
             have NE:Nonempty (SW (Grew wr)):=⟨⟨wr,Ao _ wr⟩⟩
             have A:xs.take (z+1)=xs.take z++[y]:=by rw[AO,hy];rfl
             have aX:¬y∈m++xs.take z:=by
              have am:=P.o.2.2.2.2.1;rw[<- Ch (z+1) xs,A,<- A9,<- A9]at am
              exact λ q=>(Cg.1 (Cg.1 am).1).2.2 y q y (by simp) rfl
             have aV:(m++xs.take z).length=bn+z:=by
              have N:=H.o.2.2.2.2.2.2.2.2.2;have h2:=P.o.2.2.1;rw[AD,AM];omega
             go_upto_region 26 with fail
             go_cut[117] (λ tv u=>tv=Ad (decide (y=p))/\Hid (An wr.heap.size wr u))
             case first =>
              by_cases e:y=p
              ·subst e;refine Zab (S:=Grew wr) (by kernel_rfl) (by kernel_rfl) (Ao _ wr).drew ?_
               repeat(go_big_quiet_step (fail))
               refine AN ?_;intro _ U;obtain⟨u,E⟩:=U;subst E;go_wp2_with fail;go_meet;exact⟨by simp,u.ok⟩
              ·have e1:=Zk6 e;refine Zab (S:=Grew wr) (by kernel_rfl) (by kernel_rfl) (Ao _ wr).drew ?_
               repeat(go_big_quiet_step (fail))
               refine AN ?_;intro _ U;obtain⟨u,E⟩:=U;subst E;go_wp2_with fail;go_meet;exact⟨by simp[e,e1],u.ok⟩
             case rest =>
              obtain⟨rfl,be⟩:=hcut;have bj:Hid (An w6.heap.size w6 wc):=HZ.o.2.trans (be.o.mono HZ.o.2.size);clear q0 q1 q2 NE be;by_cases e:y=p
              ·have ed:decide (y=p)=true:=by simpa using e
               have s:Hid ((bn:Int)+(z:Int)=plI (m++xs.take (z+1)) p):=by
                show _=_;rw[A,<- A9,e,Zp5 (by rw[<- e];exact aX),aV];omega
               have e1:Ak.wrap ((bn:Int)+(z:Int))=(bn:Int)+(z:Int):=by rw[IntKind.wrap_i64];have:=P.o.2.2.2.2.2;omega
               have bR:(bn:Int)+(z:Int)<=1000000:=by have:=P.o.2.2.2.2.2;omega
               rw[ed];clear e A aX aV hy ed;go_wp2_with fail;go_roundg (gk - 1)
               case measure=>omega
               case rel=>exact⟨z+1,(bn:Int)+(z:Int),by go_num,rfl,by omega,by omega,bR,s.o,bj.o⟩
              ·have ed:decide (y=p)=false:=by simpa using e
               have s:Hid (a=plI (m++xs.take (z+1)) p):=by
                show _=_;rw[A,<- A9,Zqu e];exact HZ.o.1
               rw[ed];clear e A aX aV hy ed;go_wp2_with fail;go_roundg (gk - 1)
               case measure=>omega
               case rel=>exact⟨z+1,a,by go_num,rfl,by omega,by omega,by omega,s.o,bj.o⟩
            ·obtain rfl:z=K:=by omega
             have zd:¬(z:Int)<(z:Int):=by omega
             have A:xs.take z=xs:=Av (by rw[P.o.2.2.1];exact Az _)
             have HQ:Hid (QR B wr R x tr dt fb (m++xs) cm.ps t/\a=plI (m++xs) p):=by
              refine⟨HT.o.next HZ.o.2,?_⟩;have:=HZ.o.1;rw[A]at this;exact this
             clear HZ A HT;by_cases bU:a<0
             ·have s:Hid (∃vs rs,st.told m G ids 14 rs/\OwnG encRv 106 wr b (Aa none 0 0) vs/\RvsO wr b vs rs/\An b w wr):=by
               refine⟨[],[],.open_ P.o.1 P.o.2.1 (λ q=>?_),OwnG.nil _ _ _ _,RvsO.nil _ _,(KU.o wr X).1.bel⟩;have hm:=AY D.o.1;rw[<- P.o.2.2.2.1,ZaJ]at hm;have N:=ZbL.2 (q x hm p (by rw[D.o.2.1];exact AY ai.o.1));rw[P.o.2.2.2.1]at N;have h2:=Zer.2 N;rw[<- HQ.o.2]at h2;omega
              clear HQ X;go_wp2_with fail;refine As (AA rfl _ _ _) rfl ?_;exact⟨_,_,rfl,s.o⟩
             ·have aI:p∈m++xs:=Zer.1 (by rw[<- HQ.o.2];omega);obtain⟨ra,rn,af,Q,ae⟩:=HQ.o.1.row;have r3:=Q.cell (j:=3) rfl;have Y:B.heap.size<=wr.heap.size:=X.size
              have bO:(pps (m++xs) (cm.ps.take t)).length<=8:=by
               unfold pps;rw[AQ,AM];omega
              have HO:Hid (BoxA wr R 106 #[Ab Al (x.toNat:Int),Ab Al (tr.toNat:Int),Ab Ak dt,Aa ra rn af,Ab Ak 0,tx fb]/\OwnG encI 3 wr B.heap.size (Aa ra rn af) (pps (m++xs) (cm.ps.take t))/\p∈m++xs):=⟨Q,ae,aI⟩
              clear Q aI;go_wp2_with(at_builtin;refine Zag encI 3 23 8 (Ab Ak 0) rfl Tryz.info3 underlying23 rfl (.tmp 125) (.tmp 127) rfl B.heap.size _ _ a _ rfl ae rfl (by omega) (by simp only[AG];omega) Y _ rfl ?_;intro v4 F an ar aW aa;obtain⟨vn,bw⟩:=Xa ((pps (m++xs) (cm.ps.take t)++[a]).length);obtain⟨va,vc,bQ,_,_⟩:=OwnG.whole an bw;subst bQ;have ag:=HO.o.1.turned aa (HO.o.2.1.ne_box HO.o.1 (by decide));have s3:=ag.cell (j:=3) rfl;have f3:=ag.thaw 3;have ah:Hid (OwnG encI 3 F B.heap.size (Aa va vn vc) (pps (m++xs) (cm.ps.take t)++[a])/\An B.heap.size wr F/\BoxA F R 106 #[Ab Al (x.toNat:Int),Ab Al (tr.toNat:Int),Ab Ak dt,Aa ra rn af,Ab Ak 0,tx fb]):=⟨an,ar,ag⟩;clear an ar aW aa ag bw)
              have s:Hid (QR B (F.setCell ⟨R,3,none⟩ (Aa va vn vc)) R x tr dt fb (m++xs) cm.ps (t+1)):=by
               have hT:Zaa (λ k=>k=R) F (F.setCell ⟨R,3,none⟩ (Aa va vn vc)):=Zad _ _;have bi:=X.trans (ah.o.2.1)
               have A:cm.ps.take (t+1)=cm.ps.take t++[p]:=by rw[AO,ai.o.1];rfl
               refine⟨bi.trans (hT.below bi.size (λ k hk e=>by have e':k=R:=e;have:=HQ.o.1.low;omega)),HQ.o.1.low,⟨va,vn,vc,ah.o.2.2.put 3 _,?_⟩,λ y hy=>?_⟩
               ·have N:=ah.o.1.stays hT (λ g hg e=>by
                 have e':g=R:=e;rw[e']at hg
                 exact ah.o.1.ne_box ah.o.2.2 (by decide) hg)
                rw[A]
                have e:pps (m++xs) (cm.ps.take t++[p])=pps (m++xs) (cm.ps.take t)++[a]:=by
                 unfold pps;rw[List.map_append,HQ.o.2,Zqw HO.o.2.2]
                 rfl
                rw[e];exact N
               ·rw[A]at hy
                rcases AK.1 hy with z|z
                ·exact HQ.o.1.in_ y z
                ·rw[List.mem_singleton]at z;rw[z];exact HO.o.2.2
              clear ah HO HQ ae X Y bO r3;go_wp2_with fail;go_roundg (gt - 1)
              case measure=>have:=GT.o;omega
              case rel=>exact⟨t+1,by go_num,by omega,s.o⟩
          ·obtain rfl:t=pn:=by omega
           have td:¬(t:Int)<(t:Int):=by omega
           have A:cm.ps.take t=cm.ps:=Av (by rw[D.o.2.2.2.2];exact Az _);obtain⟨ra,rn,af,Q,ae⟩:=HT.o.row;rw[A]at ae;have r0:=Q.cell (j:=0) rfl;have r1:=Q.cell (j:=1) rfl;have r2:=Q.cell (j:=2) rfl;have r3:=Q.cell (j:=3) rfl;have r4:=Q.cell (j:=4) rfl;have r5:=Q.cell (j:=5) rfl;have Y:b<=wr.heap.size:=CD kA.re.box.lt;have ax:b<=B.heap.size:=CD HP.o.1.re.box.lt;obtain⟨vs,hV⟩:=HP.o.2.2.2.2;have aK:=hV.below HT.o.bel
           have bT:vs.length<=100000:=by rw[hV.len];omega
           have HO:Hid (OwnG encI 3 wr b (Aa ra rn af) (pps (m++xs) cm.ps)/\QO b wr _ st (m++xs) xs q vs/\QA b w wr d vf oa on oc vr vt st ba bvs ia ids/\OwnG encU 43 wr 0 (Aa (some ⟨xb,xo,none⟩) K sc) xs/\∀y∈cm.ps,y∈m++xs):=⟨ae.low ax,aK,kA,kB,by
            have:=HT.o.in_;rw[A]at this
            exact this⟩
           have ak:=aK.own;clear A Q ae hV aK HT kA kB kD ax;go_wp2_with(at_builtin;refine Zag encRv 106 40 72 (Ag #[Ab Al 0,Ab Al 0,Ab Ak 0,Aa none 0 0,Ab Ak 0,Ae ⟨#[]⟩]) rfl infoRv sliceRv rfl (.tmp 130) (.tmp 132) rfl b _ _ ⟨x,tr,dt,ra,rn,af,0,fb⟩ _ rfl ak rfl (by omega) (by simp only[AG];omega) Y _ rfl ?_;intro v4 F an ar aW aa)
           have s:Hid (QA b w F d vf oa on oc vr vt st ba bvs ia ids/\OwnG encU 43 F 0 (Aa (some ⟨xb,xo,none⟩) K sc) xs/\∃vs,QO b F v4 st (m++xs) xs (q+1) vs):=by
            have hA:=HO.o.2.2.1;have bm:An b w F:=hA.bel.trans ar
            have au:An w.heap.size w F:=by rw[H.o.2.2.2.2.2.2.2.2.1];exact bm
            have al:=ak.noIB (by decide) (by decide);refine⟨⟨⟨hA.re.box.turned aa (ak.ne_box hA.re.box (by decide)),aC.o.2.1.below au⟩,aC.o.1.below au,aC.o.2.2.below au,bm⟩,HO.o.2.2.2.1.stays aa (λ g hg e=>ak.ne_own HO.o.2.2.2.1 (by decide) e hg),_,an,by rw[AD,HO.o.2.1.len];rfl,λ k v y N h2=>?_,λ y hy=>?_⟩
            ·by_cases hk:k<vs.length
             ·rw[List.getElem?_append_left hk]at N;exact(HO.o.2.1.at_ k v y N h2).stays aa al
             ·rw[List.getElem?_append_right (by omega)]at N
              have bK:k - vs.length=0:=by
               have:=(AC.1 N).1;simp at this;omega
              rw[bK]at N
              have e1:v=⟨x,tr,dt,ra,rn,af,0,fb⟩:=by simpa using N.symm
              have bL:k=q:=by have:=HO.o.2.1.len;omega
              rw[bL,D.o.1]at h2
              have e2:x=y:=by simpa using h2
              subst e1 e2
              have bu:st.row (m++xs) x 0=⟨x,tr,dt,pps (m++xs) cm.ps,0,fb⟩:=by
               unfold St.row;rw[D.o.2.1,D.o.2.2.1,D.o.2.2.2.1,HF.o.1]
              rw[bu];exact⟨rfl,rfl,rfl,rfl,HO.o.1.stays aa (λ g hg e=>ak.ne_own HO.o.1 (by decide) e hg),rfl⟩
            ·rw[AO,D.o.1]at hy
             rcases AK.1 hy with z|z
             ·exact HO.o.2.1.shut y z
             ·have e:y=x:=by simpa using z
              rw[e,D.o.2.1];exact HO.o.2.2.2.2
           clear an ar aW aa HO ak Y;go_wp2_with fail;go_roundg (go - 1)
           case measure=>have:=GO.o;omega
           case rel=>exact⟨q+1,by go_num,by omega,s.o⟩
      ·obtain rfl:q=K:=by omega
       have qd:¬(q:Int)<(q:Int):=by omega
       obtain⟨hA,bG,vs,hV⟩:=I.o;have A:xs.take q=xs:=Av (by rw[P.o.2.2.1];exact Az _)
       have ad:st.free m ids:=⟨P.o.1,P.o.2.1,λ x O p hp=>by
        have N:=hV.shut x (by rw[A,<- P.o.2.2.2.1,ZaJ];exact O) p hp;rw[<- P.o.2.2.2.1]at N
        exact ZbL.1 N⟩
       obtain⟨a5,aG⟩:=HG.o ad;rw[P.o.2.2.2.1]at a5 aG
       have ap:(st.pss (m++xs) xs).length=q:=by unfold St.pss;rw[AQ];exact P.o.2.2.1
       have bo:G.length=q:=by rw[aG.len];exact ap
       obtain⟨bb,bd,rfl,_,_,_,_⟩:=hV.own.form;rw[hV.len];have hO:=hV.own;rw[hV.len]at hO
       have a7:∀(k:Nat) (v:RV),vs[k]? = some v->∃x,xs[k]? = some x/\RvO wr b v (st.row (m++xs) x 0):=by
        intro k v hv
        have hk:k<q:=by
         have:=(AC.1 hv).1;rw[hV.len]at this;exact this
        obtain⟨x,O⟩:∃x,xs[k]? = some x:=⟨_,Aq (by rw[P.o.2.2.1];exact hk)⟩
        exact⟨x,O,hV.at_ k v x hv O⟩
       have al:=hO.noIB (by decide) (by decide);have Y:b<=wr.heap.size:=CD hA.re.box.lt
       have bt:=ZjR (bc:=bc) (λ u hu=>by
         have N:=hA.bel.trans (hO.turn Y hu);rw[<- H.o.2.2.2.2.2.2.2.2.1]at N
         exact aC.o.1.below N) H.o.2.2.1 H.o.2.2.2.1 hO (λ v hv=>by
        obtain⟨k,hk,e⟩:=List.getElem_of_mem hv;obtain⟨x,_,r⟩:=a7 k v (by rw[Aq hk,e])
        exact r.gen) (λ k v ps N h2=>by
        obtain⟨x,O,r⟩:=a7 k v N;unfold St.pss at h2;rw[List.getElem?_map,O]at h2
        have e:pps (m++xs) (st.com x).ps=ps:=by simpa using h2
        have hl:(pps (m++xs) (st.com x).ps).length=v.pn:=Zam r.ps
        have bY:(pps (m++xs) (st.com x).ps).length<=8:=by unfold pps;rw[AQ];exact Zg3 st x
        rw[<- e]
        exact⟨hl,by omega,λ u hu=>(r.stays hu al).ps.rdc.1⟩) ap a5 aG (by have:=P.o.2.2.2.2.2;omega)
       have HK:Hid (QO b wr (Aa bb q bd) st (m++xs) xs q vs/\st.free m ids/\G.length=q/\QA b w wr d vf oa on oc vr vt st ba bvs ia ids/\OwnG encRv 106 wr b (Aa bb q bd) vs):=⟨by have:=hV;rw[hV.len]at this;exact this,ad,bo,hA,hO⟩
       clear I hA bG hV A ad a5 aG ap bo hO a7 al Y;go_wp2_with fail;refine bt.mono ?_;rintro e w7 ⟨rfl,J7⟩
       have s:Hid (∃vs rs,st.told m G ids 0 rs/\OwnG encRv 106 w7 b (Aa bb q bd) vs/\RvsO w7 b vs rs/\An b w w7):=by
        have Y:b<=wr.heap.size:=CD HK.o.2.2.2.1.re.box.lt;have al:=HK.o.2.2.2.2.noIB (by decide) (by decide);have ht:=St.told.rows (G:=G) HK.o.2.1;rw[P.o.2.2.2.1]at ht;refine⟨_,_,ht,J7.o.1,⟨?_,λ k v r N h2=>?_⟩,HK.o.2.2.2.1.bel.trans (HK.o.2.2.2.2.turn Y J7.o.2)⟩
        ·unfold St.rows;rw[ZfL (by rw[HK.o.2.2.1,HK.o.1.len]),List.length_zipWith,HK.o.1.len,P.o.2.2.1,HK.o.2.2.1,Nat.min_self]
        ·have hk:k<q:=by
          have:=(AC.1 N).1;rw[ZfL (by rw[HK.o.2.2.1,HK.o.1.len]),HK.o.1.len]at this;exact this
         obtain⟨v0,hv⟩:∃v0,vs[k]? = some v0:=⟨_,Aq (by rw[HK.o.1.len];exact hk)⟩
         obtain⟨g,hg⟩:∃g,G[k]? = some g:=⟨_,Aq (by rw[HK.o.2.2.1];exact hk)⟩
         obtain⟨x,O⟩:∃x,xs[k]? = some x:=⟨_,Aq (by rw[P.o.2.2.1];exact hk)⟩
         rw[ZdN hv hg]at N;unfold St.rows at h2;rw[List.getElem?_zipWith,O,hg]at h2;cases N;cases h2;have:=(HK.o.1.at_ k v0 x hv O).stays J7.o.2 al;exact⟨this.id,this.tree,this.date,rfl,this.ps,this.fb⟩
       clear J7 bt HK;go_wp2;refine As (AA rfl _ _ _) rfl ?_;exact⟨_,_,rfl,s.o⟩
end Go.Proofs.YtlojblelpaegpaaGreat
