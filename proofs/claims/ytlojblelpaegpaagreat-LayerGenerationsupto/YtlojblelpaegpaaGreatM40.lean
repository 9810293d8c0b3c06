/-
  The statement LayerRows: its walk.
-/
import Derived.Test.YtlojblelpaegpaaGreatM39
set_option maxHeartbeats 6400000
set_option maxRecDepth 100000
open Go renaming World->Ap
open Go.RowKit renaming Below->An
open List renaming length->Gx,length_map->AQ,mem_map_of_mem->EK,mem_map->Bu,mem_append->AK
open Go.Value renaming slice->Aa,int->Ab,bool->Ad
open Go.IntKind renaming i64->Ak,u64->Al
namespace Go.Proofs.YtlojblelpaegpaaGreat
open Go.RowKit
variable{R:List Rw}{a d i j:Option Addr}{b c:List UInt64}{f:List RV}{m n:Nat}{u w:Ap}{vs:List LV}
structure PR(u:Ap)(ra wa aa:Option Addr)(vs:List LV)(ws:List RV)(R:List Rw)(ak:List UInt64)(n m:Nat):Prop where
 rows:RdG encL u ra vs
 lid:vs.map (·.id)=R.map (·.id)
 lge:vs.map (·.gen)=R.map (·.gen)
 want:RdG encRv u wa ws
 rid:ws.map (·.id)=R.map (·.id)
 rge:ws.map (·.gen)=R.map (·.gen)
 ask:RdG encU u aa ak
 stk:Stk R
 len:R.length=n
 alen:ak.length=m
theorem PR.below{u':Ap}{e b:Option Addr}(h:PR u d e b vs f R c n m)(a:An u.heap.size u u'):PR u' d e b vs f R c n m :=
 ⟨h.rows.below a,h.lid,h.lge,h.want.below a,h.rid,h.rge,h.ask.below a,h.stk,h.len,h.alen⟩
theorem PR.vlen{c:Option Addr}(h:PR u c d a vs f R b n m):vs.length=n:=by
 have e:=A4 Gx h.lid;rw[AQ,AQ]at e;exact e.trans h.len
theorem PR.wlen{f b:Option Addr}{a:List RV}(h:PR u d f b vs a R c n m):a.length=n:=by
 have e:=A4 Gx h.rid;rw[AQ,AQ]at e;exact e.trans h.len
theorem PR.lgen{g:Option Addr}{j:List RV}(h:PR u g i a vs j R b n m):∀v∈vs,1<=v.gen/\v.gen<=250:=λ v f=>by
 have e:v.gen∈R.map (·.gen):=by rw[<- h.lge];exact EK f
 obtain⟨r,c,d⟩:=Bu.1 e;rw[<- d];exact h.stk.gen r c
theorem PR.rgen{b:Option Addr}{a:List RV}(h:PR u i j b vs a R c n m):∀v∈a,0<=v.gen/\v.gen<=250:=λ v g=>by
 have f:v.gen∈R.map (·.gen):=by rw[<- h.rge];exact EK g
 obtain⟨r,d,e⟩:=Bu.1 f;rw[<- e];have:=h.stk.gen r d;omega
theorem PR.bare{c:Option Addr}{e:List RV}(h:PR u c d a vs e R b n m):PR u none none a [] [] [] b 0 m :=
 ⟨RdG.nil _ _ _,rfl,rfl,RdG.nil _ _ _,rfl,rfl,h.ask,Stk.nil,rfl,h.alen⟩
theorem WI.parts{B:Nat}{E:Nat->Prop}{s b:Nat}{vf vr vt xb xt:Value}{oa:Option Addr}{on oc k zc:Nat}{U:Nat->Prop}{st:St}{d:Dk}{bl tl cl:List UInt64}(h:WI B E w s b vf (Aa oa on oc) vr vt xb xt (Aa j k zc) U st d bl tl cl):
  (∃S,Zac w s b st S)/\RdG encO w oa st.objs/\st.objs.length=on/\RdG encU w j cl/\cl.length=k:=by
 obtain⟨S,_,m,_⟩:=h.duo;obtain⟨fa,n,fc,c,g,f,o,q,p,r,t,tc,e,_,i,_,_⟩:=h.ref
 have l:Aa oa on oc=Aa c g f:=by
  simp only[rm,Value.agg.injEq]at e;have:=A4 (λ a:Array Value=>a[6]?) e;simpa using this
 cases l;exact⟨⟨S,m⟩,i.rd,i.len,h.oc.rdc.1,Zam h.oc⟩
end Go.Proofs.YtlojblelpaegpaaGreat

