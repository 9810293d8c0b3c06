/-
  Proved: for every list of acts and every list of numbers that hold together at most 1,048,576 values and letters (the second form's bound on what came in) the law LayerGenerations of layer 12 returns true and leaves all as it was: each row's generation is one more than the greatest of its parents', and 250 at most;its Parents are those of the commit;every commit has one row.
-/
import Derived.Test.YtlojblelpaegpaaGreatM41
import Derived.Test.YtlojblelpaegpaaGreatM43
set_option maxHeartbeats 6400000
set_option maxRecDepth 100000
open Go.Proofs.Tryz renaming prog->Am
namespace Go.Proofs.YtlojblelpaegpaaGreat
open Go.ChangeShapes Go.WideShapes Go.ChangeAt Go.RowKit
theorem Zeh(H:Type)(enc:TypeId×Value->H)(W:World)(base:Nat)(args:Array Value)(r J:List (DataW H))(d:List MemPlace)
  (c:∀(j:Nat) t v,Tryz.f4.params[j]? = some t->args[j]? = some v->Value.okWide Am W .any base t v)
  (N:DataW.Whole enc Am Tryz.f4.params.toList Rows.layerGenerationsSpec.vars false W args.toList r J d)
  (P:Rows.uptoSmall H (r++J)=true) :
  Calls Am 4 args W λ e W'=>∃v,e=.returned v/\Rows.layerGenerationsSpec.post enc Am Tryz.f4 false true false false W args v W':=by
 have l:=N;obtain⟨p,q,k,hV,rfl,aa,ac⟩:=N;have M:DataW.TrodAll enc Am W 0 (λ _=>true) true Tryz.f4.params.toList args.toList r p:=k;rw[Tryz.params4]at M c;obtain⟨v0,ae,G,Y,S,q0,y,rfl,rfl,K,r0⟩:=trodAll_cons M;obtain⟨U,af,I,Z,T,q1,rfl,rfl,rfl,L,r1⟩:=trodAll_cons r0;obtain⟨rfl,rfl,rfl⟩:=trodAll_nil r1
 obtain rfl:args=#[v0,U]:=by cases args;simp_all
 obtain⟨rfl,rfl⟩:=trodVars_none hV;obtain⟨a0,o,i,rfl⟩:=okWide_slice Tryz.underlying22 (c 0 22 v0 rfl rfl);obtain⟨a1,b,f,rfl⟩:=okWide_slice Tryz.underlying23 (c 1 23 U rfl rfl);have Q:=K;have R:=L
 have C:∀x∈S,x.block<W.heap.size:=by obtain⟨m,B⟩:=Q;exact DataW.trod_lt m _ _ _ B
 have D:∀x∈T,x.block<W.heap.size:=by obtain⟨m,B⟩:=R;exact DataW.trod_lt m _ _ _ B
 have O:=CN P;simp only[Rows.uptoBulkAll,List.append_nil,Nat.add_zero]at O
 have g:Calls Am 4 #[.slice a0 o i,.slice a1 b f] W λ e w'=>e=.returned (.bool true)/\Below W.heap.size W w':=by
  obtain⟨s,z⟩:=K;obtain⟨l0,n,ab,w⟩:=Zhr (x:=(G,S)) (by simpa[Value.cells]using z) (by show Rows.uptoBulk G<=_;omega);obtain⟨u,A⟩:=L;obtain⟨V,ad,X,ag,e1,l1,m1,o1,F,E⟩:=ZcE (x:=(I,T)) (v:=.slice a1 b f) (by simpa[Value.cells]using A);cases e1
  have u1:b<=1048576:=by
   have:b<=Rows.uptoBulk I:=F;omega
  exact by
   obtain⟨acs,hC⟩:=Zl5 n.each;exact ZeL n hC (λ a q=>(w a q).1) (by omega) E l1 (by omega) Zeg
 clear k P O;simp only[List.append_nil]at l
 refine g.mono λ e W' ⟨he,bel⟩=>?_
 subst he;exact⟨_,rfl,_,_,_,[],_,[],l,trodAll_mk1 (shut_bool Tryz.underlying4 _),(trodAll_cons_mk (Below.trod laidOut (by kernel_rfl) (CN (by kernel_rfl)) Q bel C) (trodAll_cons_mk (Below.trod laidOut (by kernel_rfl) (CN (by kernel_rfl)) R bel D) trodAll_mk0)),rfl,bel.frame _,λ h=>by cases h⟩
theorem Zfs(os:Os)(a:os.Started)(H:Type)(enc:TypeId×Value->H)(F:Stop.Interp):
  ReturnsInHanded {} Tryz.checked os 4 .any ((Rows.OpenSpec.upto Rows.layerGenerationsSpec).pre6 enc Am Tryz.f4 Rows.layerGenerationsUptoRow.domain false) (((Rows.OpenSpec.upto Rows.layerGenerationsSpec).at F).post enc Am Tryz.f4 false true false false):=by
 refine returnsInHanded_of_cond (C:=Tryz.checked) (s:=Rows.OpenSpec.upto Rows.layerGenerationsSpec) (k:=Rows.uptoSmall) rfl ZiQ a (by kernel_rfl) Tryz.func4
  (OpenSpec.witness (enc:=enc) (C:=Tryz.checked) (s:=Rows.OpenSpec.upto Rows.layerGenerationsSpec) (k:=Rows.uptoSmall) rfl false ⟨#[],#[.slice none 0 0,.slice none 0 0],[]⟩ 8 (by kernel_rfl) (by kernel_rfl) (by kernel_rfl)
   (x:=([.nil,.nil],[],[])) (by kernel_rfl) rfl (by kernel_rfl)) ?_
 intro W base args d e b c f _ g _;exact Zeh H enc W base args d e b c f g
theorem Zla:(Rows.layerGenerationsUptoRow.inPlace==Am.inPlace 4)=true:=by kernel_rfl
theorem ZkS:(Rows.layerGenerationsUptoRow.unfollowed==Am.unfollowed 4)=true:=by kernel_rfl
theorem Zlr:(Rows.layerGenerationsUptoRow.recurses==Am.recurses 4)=true:=by kernel_rfl
theorem ZkM:(Rows.layerGenerationsUptoRow.named==Am.varsNamed 4)=true:=by kernel_rfl
theorem ZgJ:joinedFacts Am 4 Tryz.f4 (Rows.OpenSpec.upto Rows.layerGenerationsSpec).bare Rows.layerGenerationsUptoRow=true:=by
 unfold joinedFacts;simp only[Bool.and_eq_true]
 repeat' apply And.intro
 all_goals first | with_reducible exact Zla | with_reducible exact ZkS | with_reducible exact Zlr | with_reducible exact ZkM | kernel_rfl
theorem ZhN:Rows.layerGenerationsUptoRow.holds Tryz.pinned (Rows.OpenSpec.upto Rows.layerGenerationsSpec) :=
 OpenClaim.holds_of_cond 4 Tryz.f4 rfl rfl rfl rfl rfl rfl rfl ⟨rfl,rfl,rfl,rfl,rfl⟩ rfl rfl rfl rfl rfl (by kernel_rfl) Tryz.func4 ZgJ
  (CN (by kernel_rfl)) (by unfold Func.isWrapper;first | (rw[AE (by decide +kernel)];kernel_rfl) | (rw[Aw (by decide +kernel)];exact⟨rfl,rfl⟩))
  (λ os a H enc _ F=>Zfs os a H enc F)
theorem layerGenerationsUpto_holds:Rows.LayerGenerationsUptoSaid:=ZhN
#print axioms layerGenerationsUpto_holds
end Go.Proofs.YtlojblelpaegpaaGreat
