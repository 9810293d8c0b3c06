/-
  Proved: for every list of acts, every list of numbers, every number and all bytes that hold together at most 1,048,576 values and letters (the second form's bound on what came in) the law LayerBack of layer 12 returns true and leaves all as it was: the bytes of rows are the document's, and are read back as these rows; any bytes are read as the document's rows, or as none.
-/
import Derived.Test.YtakgkgmopmcecaaGreatM20
import Derived.Test.YtakgkgmopmcecaaGreatM21
set_option maxHeartbeats 6400000
set_option maxRecDepth 100000
open Go.DataW renaming trod_lt->Fy
open Go.Value renaming cells->Fh,slice->Aa
open Go renaming trodAll_cons_mk->EX
open Go.Proofs.Tryz renaming prog->Am
open Go.Proofs.Tryz
namespace Go.Proofs.YtakgkgmopmcecaaGreat
open Go.ChangeShapes Go.WideShapes Go.ChangeAt Go.RowKit
theorem XN(H:Type)(enc:TypeId×Value->H)(W:World)(base:Nat)(args:Array Value)(w V:List (DataW H))(f:List MemPlace)
  (b:∀(j:Nat) t v,Tryz.f3.params[j]? = some t->args[j]? = some v->Value.okWide Am W .any base t v)
  (hW:DataW.Whole enc Am Tryz.f3.params.toList Rows.layerBackSpec.vars false W args.toList w V f)
  (hk:Rows.uptoSmall H (w++V)=true) :
  Calls Am 3 args W λ e W'=>∃v,e=.returned v/\Rows.layerBackSpec.post enc Am Tryz.f3 false true false false W args v W':=by
 have r:=hW;obtain⟨p,q,o,hV,rfl,ai,ak⟩:=hW;have hA:DataW.TrodAll enc Am W 0 (λ _=>true) true Tryz.f3.params.toList args.toList w p:=o;rw[Tryz.params3]at hA b;obtain⟨v0,an,S,ae,p0,q0,D,rfl,rfl,X,r0⟩:=trodAll_cons hA;obtain⟨v1,ao,T,af,p1,q1,rfl,rfl,rfl,Y,r1⟩:=trodAll_cons r0;obtain⟨v2,ap,d2,ag,p2,q2,rfl,rfl,rfl,Z,r2⟩:=trodAll_cons r1;obtain⟨v3,aq,U,ah,p3,q3,rfl,rfl,rfl,h3,r3⟩:=trodAll_cons r2;obtain⟨rfl,rfl,rfl⟩:=trodAll_nil r3
 obtain rfl:args=#[v0,v1,v2,v3]:=by cases args;simp_all
 obtain⟨rfl,rfl⟩:=trodVars_none hV;obtain⟨a0,u,n,rfl⟩:=okWide_slice underlying22 (b 0 22 v0 rfl rfl);obtain⟨a1,c,g,rfl⟩:=okWide_slice underlying23 (b 1 23 v1 rfl rfl);obtain⟨n2,rfl⟩:=okWide_int underlying3 (b 2 3 v2 rfl rfl);obtain⟨a3,d,i,rfl⟩:=okWide_slice underlying24 (b 3 24 v3 rfl rfl);have k0:=X;have k1:=Y;have k2:=Z;have k3:=h3
 have J:∀x∈p0,x.block<W.heap.size:=by obtain⟨m,k⟩:=k0;exact Fy m _ _ _ k
 have K:∀x∈p1,x.block<W.heap.size:=by obtain⟨m,k⟩:=k1;exact Fy m _ _ _ k
 have L:∀x∈p2,x.block<W.heap.size:=by obtain⟨m,k⟩:=k2;exact Fy m _ _ _ k
 have M:∀x∈p3,x.block<W.heap.size:=by obtain⟨m,k⟩:=k3;exact Fy m _ _ _ k
 have hb:=Dy hk;simp only[Rows.uptoBulkAll,List.append_nil,Nat.add_zero]at hb
 have l:Calls Am 3 #[Aa a0 u n,Aa a1 c g,.int .i64 n2,Aa a3 d i] W λ e w'=>e=.returned (.bool true)/\Iz W w':=by
  obtain⟨y,E⟩:=X;obtain⟨l0,s,aj,C⟩:=eF (x:=(S,p0)) (by simpa[Fh]using E) (by show Rows.uptoBulk S<=_;omega);obtain⟨z,F⟩:=Y;obtain⟨aa,al,ac,ar,e1,l1,m1,o1,P,N⟩:=Q6 (x:=(T,p1)) (v:=Aa a1 c g) (by simpa[Fh]using F);cases e1
  have u1:c<=1048576:=by
   have:c<=Rows.uptoBulk T:=P;omega
  obtain⟨A,G⟩:=Z;obtain⟨z2,e2,_,R⟩:=DataW.trod_int underlying3 G
  obtain rfl:n2=z2:=by simpa[Fh]using e2
  have w2:=Ms R;obtain⟨B,I⟩:=h3;obtain⟨ab,am,ad,au,e3,l3,m3,o3,Q,O⟩:=Ty (x:=(U,p3)) (v:=Aa a3 d i) (by simpa[Fh]using I);cases e3
  have u3:d<=1048576:=by
   have:d<=Rows.uptoBulk U:=Q;omega
  exact by
   obtain⟨acs,hC⟩:=SF s.each;exact Wh s hC (λ a q=>(C a q).1) (by omega) N l1 (by omega) O l3 ⟨m3,o3⟩ (by omega) Ue
 clear o hk hb;simp only[List.append_nil]at r
 refine l.mono λ e W' ⟨he,bel⟩=>?_
 subst he;exact⟨_,rfl,_,_,_,[],_,[],r,trodAll_mk1 (shut_bool underlying4 _),(EX (Below.trod laidOut (by kernel_rfl) (Dy (by kernel_rfl)) k0 bel J) (EX (Below.trod laidOut (by kernel_rfl) (Dy (by kernel_rfl)) k1 bel K) (EX (Below.trod laidOut (by kernel_rfl) (Dy (by kernel_rfl)) k2 bel L) (EX (Below.trod laidOut (by kernel_rfl) (Dy (by kernel_rfl)) k3 bel M) trodAll_mk0)))),rfl,bel.frame _,λ h=>by cases h⟩
theorem dW(os:Os)(a:os.Started)(H:Type)(enc:TypeId×Value->H)(F:Stop.Interp):
  ReturnsInHanded {} Tryz.checked os 3 .any ((Rows.OpenSpec.upto Rows.layerBackSpec).pre6 enc Am Tryz.f3 Rows.layerBackUptoRow.domain false) (((Rows.OpenSpec.upto Rows.layerBackSpec).at F).post enc Am Tryz.f3 false true false false):=by
 refine returnsInHanded_of_cond (C:=Tryz.checked) (s:=Rows.OpenSpec.upto Rows.layerBackSpec) (k:=Rows.uptoSmall) rfl Uf a (by kernel_rfl) func3
  (OpenSpec.witness (enc:=enc) (C:=Tryz.checked) (s:=Rows.OpenSpec.upto Rows.layerBackSpec) (k:=Rows.uptoSmall) rfl false ⟨#[],#[Aa none 0 0,Aa none 0 0,.int .i64 0,Aa none 0 0],[]⟩ 8 (by kernel_rfl) (by kernel_rfl) (by kernel_rfl)
   (x:=([.nil,.nil,.lit (.int .i64 0),.nil],[],[])) (by kernel_rfl) rfl (by kernel_rfl)) ?_
 intro W base args d e b c f _ g _;exact XN H enc W base args d e b c f g
theorem fC:(Rows.layerBackUptoRow.inPlace==Am.inPlace 3)=true:=by kernel_rfl
theorem fN:(Rows.layerBackUptoRow.unfollowed==Am.unfollowed 3)=true:=by kernel_rfl
theorem T0:(Rows.layerBackUptoRow.recurses==Am.recurses 3)=true:=by kernel_rfl
theorem fH:(Rows.layerBackUptoRow.named==Am.varsNamed 3)=true:=by kernel_rfl
theorem Zh:joinedFacts Am 3 Tryz.f3 (Rows.OpenSpec.upto Rows.layerBackSpec).bare Rows.layerBackUptoRow=true:=by
 unfold joinedFacts;simp only[Bool.and_eq_true]
 repeat' apply And.intro
 all_goals first | with_reducible exact fC | with_reducible exact fN | with_reducible exact T0 | with_reducible exact fH | kernel_rfl
theorem WU:Rows.layerBackUptoRow.holds Tryz.pinned (Rows.OpenSpec.upto Rows.layerBackSpec) :=
 OpenClaim.holds_of_cond 3 Tryz.f3 rfl rfl rfl rfl rfl rfl rfl ⟨rfl,rfl,rfl,rfl,rfl⟩ rfl rfl rfl rfl rfl (by kernel_rfl) func3 Zh
  (Dy (by kernel_rfl)) (by unfold Func.isWrapper;first | (rw[AC (by decide +kernel)];kernel_rfl) | (rw[Ay (by decide +kernel)];exact⟨rfl,rfl⟩))
  (λ os a H enc _ F=>dW os a H enc F)
theorem layerBackUpto_holds:Rows.LayerBackUptoSaid:=WU
#print axioms layerBackUpto_holds
end Go.Proofs.YtakgkgmopmcecaaGreat
