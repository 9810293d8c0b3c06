/-
  Proved: for every list of acts that holds together at most 1,048,576 values and letters (the second form's bound on what came in) the law StorePlays of layer 9 returns true and leaves all as it was: whatever is put, named, cut and opened anew, each call answers, and the store and its file are, just as the document says.
-/
import Derived.Test.YtmhcpbbiokpjjaaGreatM48
set_option maxHeartbeats 6400000
set_option maxRecDepth 100000
namespace Go.Proofs.YtmhcpbbiokpjjaaGreat
open Go.ChangeShapes Go.WideShapes Go.ChangeAt Go.RowKit
theorem Zd0 (H:Type) (enc:TypeId×Value->H) (W:World) (base:Nat) (args:Array Value) (ds gs:List (DataW H)) (before:List MemPlace)
  (hval:∀ (j:Nat) t v,Tryz.f3.params[j]? = some t->args[j]? = some v->Value.okWide Tryz.prog W .any base t v)
  (hW:DataW.Whole enc Tryz.prog Tryz.f3.params.toList Rows.storePlaysSpec.vars false W args.toList ds gs before)
  (hk:Rows.uptoSmall H (ds++gs)=true) :
  Calls Tryz.prog 3 args W λ e W'=>∃ v,e=.returned v/\Rows.storePlaysSpec.post enc Tryz.prog Tryz.f3 false true false false W args v W':=by
 have hW':=hW;obtain ⟨p,q,hA0,hV,rfl,hfz,hnd⟩:=hW;have hA:DataW.TrodAll enc Tryz.prog W 0 (λ _=>true) true Tryz.f3.params.toList args.toList ds p:=hA0;rw [Tryz.params3] at hA hval;obtain ⟨v0,vs0,d0,ds0,p0,q0,hargs,rfl,rfl,h0,r0⟩:=trodAll_cons hA;obtain ⟨rfl,rfl,rfl⟩:=trodAll_nil r0
 obtain rfl:args=#[v0]:=by cases args; simp_all
 obtain ⟨rfl,rfl⟩:=trodVars_none hV;obtain ⟨a0,len0,cap0,rfl⟩:=okWide_slice Tryz.underlying22 (hval 0 22 v0 rfl rfl);have k0:=h0
 have lt0:∀ x∈p0,x.block<W.heap.size:=by obtain ⟨m,hm⟩:=k0; exact DataW.trod_lt m _ _ _ hm
 have hb:=of_decide_eq_true hk;simp only [Rows.uptoBulkAll,List.append_nil,Nat.add_zero] at hb
 have hwalk:Calls Tryz.prog 3 #[.slice a0 len0 cap0] W λ e w'=>e=.returned (.bool true)/\Below W.heap.size W w':=by
  obtain ⟨fuel0,hf0⟩:=h0;obtain ⟨l0,hl0,hm0,ha0⟩:=Zku (x:=(d0,p0)) (by simpa [Value.cells] using hf0) (by show Rows.uptoBulk d0<=_; omega);exact ZgB hl0 (λ a q=>⟨(ha0 a q).1,(ha0 a q).2.2⟩) (by omega)
 clear hA0 hk hb;simp only [List.append_nil] at hW'
 refine hwalk.mono λ e W' ⟨he,bel⟩=>?_
 subst he;exact ⟨_,rfl,_,_,_,[],_,[],hW',trodAll_mk1 (shut_bool Tryz.underlying4 _),(trodAll_cons_mk (Below.trod laidOut (by kernel_rfl) (of_decide_eq_true (by kernel_rfl)) k0 bel lt0) trodAll_mk0),rfl,bel.frame _,λ h=>by cases h⟩
theorem Zf3 (os:Os) (started:os.Started) (H:Type) (enc:TypeId×Value->H) (F:Stop.Interp) :
  ReturnsInHanded {} Tryz.checked os 3 .any ((Rows.OpenSpec.upto Rows.storePlaysSpec).pre6 enc Tryz.prog Tryz.f3 Rows.storePlaysUptoRow.domain false) (((Rows.OpenSpec.upto Rows.storePlaysSpec).at F).post enc Tryz.prog Tryz.f3 false true false false):=by
 refine returnsInHanded_of_cond (C:=Tryz.checked) (s:=Rows.OpenSpec.upto Rows.storePlaysSpec) (k:=Rows.uptoSmall) rfl ZlN started (by kernel_rfl) Tryz.func3
  (OpenSpec.witness (enc:=enc) (C:=Tryz.checked) (s:=Rows.OpenSpec.upto Rows.storePlaysSpec) (k:=Rows.uptoSmall) rfl false ⟨#[],#[.slice none 0 0],[]⟩ 8 (by kernel_rfl) (by kernel_rfl) (by kernel_rfl)
   (x:=([.nil],[],[])) (by kernel_rfl) rfl (by kernel_rfl)) ?_
 intro W base args ds gs before hval hW _ hk _;exact Zd0 H enc W base args ds gs before hval hW hk
theorem Zl3:(Rows.storePlaysUptoRow.inPlace==Tryz.prog.inPlace 3)=true:=by kernel_rfl
theorem Zlz:(Rows.storePlaysUptoRow.unfollowed==Tryz.prog.unfollowed 3)=true:=by kernel_rfl
theorem Zl6:(Rows.storePlaysUptoRow.recurses==Tryz.prog.recurses 3)=true:=by kernel_rfl
theorem ZlH:(Rows.storePlaysUptoRow.named==Tryz.prog.varsNamed 3)=true:=by kernel_rfl
theorem ZgN:joinedFacts Tryz.prog 3 Tryz.f3 (Rows.OpenSpec.upto Rows.storePlaysSpec).bare Rows.storePlaysUptoRow=true:=by
 unfold joinedFacts;simp only [Bool.and_eq_true]
 repeat' apply And.intro
 all_goals first | with_reducible exact Zl3 | with_reducible exact Zlz | with_reducible exact Zl6 | with_reducible exact ZlH | kernel_rfl
theorem ZiD:Rows.storePlaysUptoRow.holds Tryz.pinned (Rows.OpenSpec.upto Rows.storePlaysSpec) :=
 OpenClaim.holds_of_cond 3 Tryz.f3 rfl rfl rfl rfl rfl rfl rfl ⟨rfl,rfl,rfl,rfl,rfl⟩ rfl rfl rfl rfl rfl (by kernel_rfl) Tryz.func3 ZgN
  (of_decide_eq_true (by kernel_rfl)) (by unfold Func.isWrapper; first | (rw [if_pos (by decide +kernel)]; kernel_rfl) | (rw [if_neg (by decide +kernel)]; exact ⟨rfl,rfl⟩))
  (λ os started H enc _ F=>Zf3 os started H enc F)
theorem storePlaysUpto_holds:Rows.StorePlaysUptoSaid:=ZiD
#print axioms storePlaysUpto_holds
end Go.Proofs.YtmhcpbbiokpjjaaGreat
