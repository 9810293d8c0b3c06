/-
  Proved: for every list of acts and all bytes that hold together at most 1,048,576 values and letters (the second form's bound on what came in) the law StoreClosed of layer 9 returns true and leaves all as it was: whatever a file holds, a store of it has each commit with its tree and its parents, each tree with its blobs, and names of commits that are there; opened again it is the same, and writes nothing.
-/
import Derived.Test.YtjlokpjflgbgdaaGreatMC44
import Derived.Test.YtjlokpjflgbgdaaGreatMC45
set_option maxHeartbeats 6400000
set_option maxRecDepth 100000
namespace Go.Proofs.YtjlokpjflgbgdaaGreat
open Go.ChangeShapes Go.WideShapes Go.ChangeAt Go.RowKit
theorem closed_contract (H:Type) (enc:TypeId×Value->H) (W:World) (base:Nat) (args:Array Value) (ds gs:List (DataW H)) (before:List MemPlace)
  (hval:∀ (j:Nat) t v,Tryz.f5.params[j]? = some t->args[j]? = some v->Value.okWide Tryz.prog W .any base t v)
  (hW:DataW.Whole enc Tryz.prog Tryz.f5.params.toList Rows.storeClosedSpec.vars false W args.toList ds gs before)
  (hk:Rows.uptoSmall H (ds++gs)=true) :
  Calls Tryz.prog 5 args W λ e W'=>∃ v,e=.returned v/\Rows.storeClosedSpec.post enc Tryz.prog Tryz.f5 false true false false W args v W':=by
 have hW':=hW;obtain ⟨p,q,hA0,hV,rfl,hfz,hnd⟩:=hW;have hA:DataW.TrodAll enc Tryz.prog W 0 (λ _=>true) true Tryz.f5.params.toList args.toList ds p:=hA0;rw [Tryz.params5] at hA hval;obtain ⟨v0,vs0,d0,ds0,p0,q0,hargs,rfl,rfl,h0,r0⟩:=trodAll_cons hA;obtain ⟨v1,vs1,d1,ds1,p1,q1,rfl,rfl,rfl,h1,r1⟩:=trodAll_cons r0;obtain ⟨rfl,rfl,rfl⟩:=trodAll_nil r1
 obtain rfl:args=#[v0,v1]:=by cases args; simp_all
 obtain ⟨rfl,rfl⟩:=trodVars_none hV;obtain ⟨a0,len0,cap0,rfl⟩:=okWide_slice Tryz.underlying22 (hval 0 22 v0 rfl rfl);obtain ⟨a1,len1,cap1,rfl⟩:=okWide_slice Tryz.underlying39 (hval 1 39 v1 rfl rfl);have k0:=h0;have k1:=h1
 have lt0:∀ x∈p0,x.block<W.heap.size:=by obtain ⟨m,hm⟩:=k0; exact DataW.trod_lt m _ _ _ hm
 have lt1:∀ x∈p1,x.block<W.heap.size:=by obtain ⟨m,hm⟩:=k1; exact DataW.trod_lt m _ _ _ hm
 have hb:=of_decide_eq_true hk;simp only [Rows.uptoBulkAll,List.append_nil,Nat.add_zero] at hb
 have hwalk:Calls Tryz.prog 5 #[.slice a0 len0 cap0,.slice a1 len1 cap1] W λ e w'=>e=.returned (.bool true)/\Below W.heap.size W w':=by
  obtain ⟨fuel0,hf0⟩:=h0;obtain ⟨l0,hl0,hm0,ha0⟩:=acts_view (x:=(d0,p0)) (by simpa [Value.cells] using hf0) (by show Rows.uptoBulk d0<=_; omega);obtain ⟨fuel1,hf1⟩:=h1;obtain ⟨a'1,l'1,c'1,xs1,e1,l1,m1,o1,u'1,rd1⟩:=bytes_view (x:=(d1,p1)) (v:=.slice a1 len1 cap1) (by simpa [Value.cells] using hf1);cases e1
  have u1:len1<=1048576:=by
   have:len1<=Rows.uptoBulk d1:=u'1;omega
  exact closed_walk hl0 (λ a q=>(ha0 a q).1) (by omega) ⟨a1,cap1,by rw [l1],by rw [l1]; exact m1,o1,rd1⟩ (by rw [l1]; exact u1)
 clear hA0 hk hb;simp only [List.append_nil] at hW'
 refine hwalk.mono λ e W' ⟨he,bel⟩=>?_
 subst he;exact ⟨_,rfl,_,_,_,[],_,[],hW',trodAll_mk1 (shut_bool Tryz.underlying4 _),(trodAll_cons_mk (Below.trod laidOut (by kernel_rfl) (of_decide_eq_true (by kernel_rfl)) k0 bel lt0) (trodAll_cons_mk (Below.trod laidOut (by kernel_rfl) (of_decide_eq_true (by kernel_rfl)) k1 bel lt1) trodAll_mk0)),rfl,bel.frame _,λ h=>by cases h⟩
theorem closed_lifted (os:Os) (started:os.Started) (H:Type) (enc:TypeId×Value->H) (F:Stop.Interp) :
  ReturnsInHanded {} Tryz.checked os 5 .any ((Rows.OpenSpec.upto Rows.storeClosedSpec).pre6 enc Tryz.prog Tryz.f5 Rows.storeClosedUptoRow.domain false) (((Rows.OpenSpec.upto Rows.storeClosedSpec).at F).post enc Tryz.prog Tryz.f5 false true false false):=by
 refine returnsInHanded_of_cond (C:=Tryz.checked) (s:=Rows.OpenSpec.upto Rows.storeClosedSpec) (k:=Rows.uptoSmall) rfl own_knob started (by kernel_rfl) Tryz.func5
  (OpenSpec.witness (enc:=enc) (C:=Tryz.checked) (s:=Rows.OpenSpec.upto Rows.storeClosedSpec) (k:=Rows.uptoSmall) rfl false ⟨#[],#[.slice none 0 0,.slice none 0 0],[]⟩ 8 (by kernel_rfl) (by kernel_rfl) (by kernel_rfl)
   (x:=([.nil,.nil],[],[])) (by kernel_rfl) rfl (by kernel_rfl)) ?_
 intro W base args ds gs before hval hW _ hk _;exact closed_contract H enc W base args ds gs before hval hW hk
theorem closed_f1:(Rows.storeClosedUptoRow.inPlace==Tryz.prog.inPlace 5)=true:=by kernel_rfl
theorem closed_f2:(Rows.storeClosedUptoRow.unfollowed==Tryz.prog.unfollowed 5)=true:=by kernel_rfl
theorem closed_f3:(Rows.storeClosedUptoRow.recurses==Tryz.prog.recurses 5)=true:=by kernel_rfl
theorem closed_f4:(Rows.storeClosedUptoRow.named==Tryz.prog.varsNamed 5)=true:=by kernel_rfl
theorem closed_facts:joinedFacts Tryz.prog 5 Tryz.f5 (Rows.OpenSpec.upto Rows.storeClosedSpec).bare Rows.storeClosedUptoRow=true:=by
 unfold joinedFacts;simp only [Bool.and_eq_true]
 repeat' apply And.intro
 all_goals first | with_reducible exact closed_f1 | with_reducible exact closed_f2 | with_reducible exact closed_f3 | with_reducible exact closed_f4 | kernel_rfl
theorem closed_over:Rows.storeClosedUptoRow.holds Tryz.pinned (Rows.OpenSpec.upto Rows.storeClosedSpec) :=
 OpenClaim.holds_of_cond 5 Tryz.f5 rfl rfl rfl rfl rfl rfl rfl ⟨rfl,rfl,rfl,rfl,rfl⟩ rfl rfl rfl rfl rfl (by kernel_rfl) Tryz.func5 closed_facts
  (of_decide_eq_true (by kernel_rfl)) (by unfold Func.isWrapper; first | (rw [if_pos (by decide +kernel)]; kernel_rfl) | (rw [if_neg (by decide +kernel)]; exact ⟨rfl,rfl⟩))
  (λ os started H enc _ F=>closed_lifted os started H enc F)
theorem storeClosedUpto_holds:Rows.StoreClosedUptoSaid:=closed_over
#print axioms storeClosedUpto_holds
end Go.Proofs.YtjlokpjflgbgdaaGreat
