/-
  Proved: for every list of acts and all lists of numbers that hold together at most 1,048,576 values and letters (the second form's bound on what came in) the law LayerRows of layer 12 returns true and leaves all as it was: the rows of any commits above any stack are the document's, or are refused.
-/
import Derived.Test.YtlojblelpaegpaaGreatM41
set_option maxHeartbeats 6400000
set_option maxRecDepth 100000
open Go.Value renaming cells->Es,slice->Aa
open Go.Proofs.Tryz renaming prog->Am
open Go.Proofs.Tryz
namespace Go.Proofs.YtlojblelpaegpaaGreat
open Go.ChangeShapes Go.WideShapes Go.ChangeAt Go.RowKit
theorem Zd1(H:Type)(enc:TypeId×Value->H)(W:World)(base:Nat)(args:Array Value)(w R:List (DataW H))(f:List MemPlace)
  (b:∀(j:Nat) t v,Tryz.f3.params[j]? = some t->args[j]? = some v->Value.okWide Am W .any base t v)
  (X:DataW.Whole enc Am Tryz.f3.params.toList Rows.layerRowsSpec.vars false W args.toList w R f)
  (Z:Rows.uptoSmall H (w++R)=true) :
  Calls Am 3 args W λ e W'=>∃v,e=.returned v/\Rows.layerRowsSpec.post enc Am Tryz.f3 false true false false W args v W':=by
 have o:=X;obtain⟨p,q,n,hV,rfl,ah,aj⟩:=X;have V:DataW.TrodAll enc Am W 0 (λ _=>true) true Tryz.f3.params.toList args.toList w p:=n;rw[Tryz.params3]at V b;obtain⟨v0,am,O,ae,p0,q0,C,rfl,rfl,S,r0⟩:=trodAll_cons V;obtain⟨v1,an,P,af,p1,q1,rfl,rfl,rfl,T,r1⟩:=trodAll_cons r0;obtain⟨v2,ao,Q,ag,p2,q2,rfl,rfl,rfl,U,r2⟩:=trodAll_cons r1;obtain⟨rfl,rfl,rfl⟩:=trodAll_nil r2
 obtain rfl:args=#[v0,v1,v2]:=by cases args;simp_all
 obtain⟨rfl,rfl⟩:=trodVars_none hV;obtain⟨a0,u,l,rfl⟩:=okWide_slice underlying22 (b 0 22 v0 rfl rfl);obtain⟨a1,c,g,rfl⟩:=okWide_slice underlying23 (b 1 23 v1 rfl rfl);obtain⟨a2,d,i,rfl⟩:=okWide_slice underlying23 (b 2 23 v2 rfl rfl);have k0:=S;have k1:=T;have k2:=U
 have G:∀x∈p0,x.block<W.heap.size:=by obtain⟨m,s⟩:=k0;exact DataW.trod_lt m _ _ _ s
 have I:∀x∈p1,x.block<W.heap.size:=by obtain⟨m,s⟩:=k1;exact DataW.trod_lt m _ _ _ s
 have J:∀x∈p2,x.block<W.heap.size:=by obtain⟨m,s⟩:=k2;exact DataW.trod_lt m _ _ _ s
 have Y:=CN Z;simp only[Rows.uptoBulkAll,List.append_nil,Nat.add_zero]at Y
 have k:Calls Am 3 #[Aa a0 u l,Aa a1 c g,Aa a2 d i] W λ e w'=>e=.returned (.bool true)/\Below W.heap.size W w':=by
  obtain⟨y,D⟩:=S;obtain⟨l0,r,ai,B⟩:=Zhr (x:=(O,p0)) (by simpa[Es]using D) (by show Rows.uptoBulk O<=_;omega);obtain⟨z,E⟩:=T;obtain⟨aa,ak,ac,ap,e1,l1,m1,o1,M,K⟩:=ZcE (x:=(P,p1)) (v:=Aa a1 c g) (by simpa[Es]using E);cases e1
  have u1:c<=1048576:=by
   have:c<=Rows.uptoBulk P:=M;omega
  obtain⟨A,F⟩:=U;obtain⟨ab,al,ad,aq,e2,l2,m2,o2,N,L⟩:=ZcE (x:=(Q,p2)) (v:=Aa a2 d i) (by simpa[Es]using F);cases e2
  have u2:d<=1048576:=by
   have:d<=Rows.uptoBulk Q:=N;omega
  exact by
   obtain⟨acs,hC⟩:=Zl5 r.each;exact ZeI r hC (λ a q=>(B a q).1) (by omega) K l1 (by omega) L l2 (by omega) Zeg
 clear n Z Y;simp only[List.append_nil]at o
 refine k.mono λ e W' ⟨he,bel⟩=>?_
 subst he;exact⟨_,rfl,_,_,_,[],_,[],o,trodAll_mk1 (shut_bool underlying4 _),(trodAll_cons_mk (Below.trod laidOut (by kernel_rfl) (CN (by kernel_rfl)) k0 bel G) (trodAll_cons_mk (Below.trod laidOut (by kernel_rfl) (CN (by kernel_rfl)) k1 bel I) (trodAll_cons_mk (Below.trod laidOut (by kernel_rfl) (CN (by kernel_rfl)) k2 bel J) trodAll_mk0))),rfl,bel.frame _,λ h=>by cases h⟩
theorem Zfw(os:Os)(a:os.Started)(H:Type)(enc:TypeId×Value->H)(F:Stop.Interp):
  ReturnsInHanded {} Tryz.checked os 3 .any ((Rows.OpenSpec.upto Rows.layerRowsSpec).pre6 enc Am Tryz.f3 Rows.layerRowsUptoRow.domain false) (((Rows.OpenSpec.upto Rows.layerRowsSpec).at F).post enc Am Tryz.f3 false true false false):=by
 refine returnsInHanded_of_cond (C:=Tryz.checked) (s:=Rows.OpenSpec.upto Rows.layerRowsSpec) (k:=Rows.uptoSmall) rfl ZiQ a (by kernel_rfl) func3
  (OpenSpec.witness (enc:=enc) (C:=Tryz.checked) (s:=Rows.OpenSpec.upto Rows.layerRowsSpec) (k:=Rows.uptoSmall) rfl false ⟨#[],#[Aa none 0 0,Aa none 0 0,Aa none 0 0],[]⟩ 8 (by kernel_rfl) (by kernel_rfl) (by kernel_rfl)
   (x:=([.nil,.nil,.nil],[],[])) (by kernel_rfl) rfl (by kernel_rfl)) ?_
 intro W base args d e b c f _ g _;exact Zd1 H enc W base args d e b c f g
theorem Zme:(Rows.layerRowsUptoRow.inPlace==Am.inPlace 3)=true:=by kernel_rfl
theorem ZlO:(Rows.layerRowsUptoRow.unfollowed==Am.unfollowed 3)=true:=by kernel_rfl
theorem ZkJ:(Rows.layerRowsUptoRow.recurses==Am.recurses 3)=true:=by kernel_rfl
theorem ZmK:(Rows.layerRowsUptoRow.named==Am.varsNamed 3)=true:=by kernel_rfl
theorem Zg1:joinedFacts Am 3 Tryz.f3 (Rows.OpenSpec.upto Rows.layerRowsSpec).bare Rows.layerRowsUptoRow=true:=by
 unfold joinedFacts;simp only[Bool.and_eq_true]
 repeat' apply And.intro
 all_goals first | with_reducible exact Zme | with_reducible exact ZlO | with_reducible exact ZkJ | with_reducible exact ZmK | kernel_rfl
theorem Zif:Rows.layerRowsUptoRow.holds Tryz.pinned (Rows.OpenSpec.upto Rows.layerRowsSpec) :=
 OpenClaim.holds_of_cond 3 Tryz.f3 rfl rfl rfl rfl rfl rfl rfl ⟨rfl,rfl,rfl,rfl,rfl⟩ rfl rfl rfl rfl rfl (by kernel_rfl) func3 Zg1
  (CN (by kernel_rfl)) (by unfold Func.isWrapper;first | (rw[AE (by decide +kernel)];kernel_rfl) | (rw[Aw (by decide +kernel)];exact⟨rfl,rfl⟩))
  (λ os a H enc _ F=>Zfw os a H enc F)
theorem layerRowsUpto_holds:Rows.LayerRowsUptoSaid:=Zif
#print axioms layerRowsUpto_holds
end Go.Proofs.YtlojblelpaegpaaGreat
