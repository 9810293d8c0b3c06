/-
  What holds of a store that was read from a file: each commit with its tree and its parents, each tree with its blobs, names of commits that are there. No program.
-/
import Derived.Test.YtjlokpjflgbgdaaGreatMC42
set_option maxHeartbeats 6400000
set_option maxRecDepth 100000
namespace Go.Proofs.YtjlokpjflgbgdaaGreat
open Go.RowKit
theorem Stp.calm {st st':St} {d d':Dk} (h:Stp st d st' d') (hc:Calm d):Calm d':=by
 rcases h with ⟨rfl,rfl⟩ | ⟨f,_,_,rfl,rfl⟩
 ·exact hc
 ·exact (dlay_calm hc _ _ _).1
theorem dapp_calm {d:Dk} (hc:Calm d) (hr:FRise d.files) (b:Bs):(dapp d fileN b).2=7∨((dapp d fileN b).2=0/\Calm (dapp d fileN b).1/\ofile (dapp d fileN b).1=ofile d++b):=by
 have e:dnext d=({ d with writes:=d.writes+1 },true,false):=by
  unfold dnext;rw [hc.1,hc.2];simp
 unfold dapp dlay;rw [if_neg (by rw [fileN_name]; simp)]
 split
 ·exact .inl rfl
 ·right
  rw [e];exact ⟨rfl,⟨hc.1,hc.2⟩,ofile_with hr rfl⟩
theorem ok_open {d:Dk} (h:d.ok):(sopen d).2.1.ok:=by
 unfold sopen
 split
 ·exact ok_trim h _ _
 ·exact h
theorem St.ok.comm {st:St} (h:st.ok) {i:UInt64} (hi:st.has 3 i=true):st.has 2 (st.com i).tree=true/\∀ p∈(st.com i).ps,st.has 3 p=true:=by
 obtain ⟨b,hb⟩:=has_get.1 hi;obtain ⟨c,h1,h2⟩:=h.com _ (oget_mem hb) rfl
 have e:st.com i=c:=by
  unfold St.com;rw [hb,Option.bind_some];have h1':rdcom b=some c:=h1;rw [h1']
  rfl
 rw [e];unfold St.above at h2;rw [Bool.and_eq_true,List.all_eq_true] at h2;exact ⟨h2.2,h2.1⟩
theorem St.ok.tre {st:St} (h:st.ok) {i:UInt64} (hi:st.has 2 i=true):∀ e∈st.files i,st.has 1 e.2=true:=by
 obtain ⟨b,hb⟩:=has_get.1 hi;obtain ⟨es,h1,h2⟩:=h.tree _ (oget_mem hb) rfl
 have e:st.files i=es:=by
  unfold St.files;rw [hb,Option.bind_some];have h1':rdtree b=some es:=h1;rw [h1']
  rfl
 rw [e];unfold St.blobs at h2;rw [List.all_eq_true] at h2;exact h2
theorem com_few {st:St} (h:st.ok) {i:UInt64} (hi:st.has 3 i=true):(st.com i).ps.length<=1000000:=by
 obtain ⟨b,hb⟩:=has_get.1 hi;obtain ⟨c,h1,_⟩:=h.com _ (oget_mem hb) rfl
 have e:st.com i=c:=by
  unfold St.com;rw [hb,Option.bind_some];have h1':rdcom b=some c:=h1;rw [h1']
  rfl
 rw [e];have:=ccom_ok (rdcom_back h1).1;omega
theorem tree_few {st:St} (h:st.ok) {i:UInt64} (hi:st.has 2 i=true):(st.files i).length<=1000000:=by
 obtain ⟨b,hb⟩:=has_get.1 hi;obtain ⟨es,h1,_⟩:=h.tree _ (oget_mem hb) rfl
 have e:st.files i=es:=by
  unfold St.files;rw [hb,Option.bind_some];have h1':rdtree b=some es:=h1;rw [h1']
  rfl
 rw [e];have:=(ctree_ok (rdtree_back h1).1).1;omega
theorem nrise_nodup {l:List (Nm UInt64)} (h:NRise l):(l.map (·.1)).Nodup:=by
 refine List.pairwise_map.2 (h.imp ?_);intro a b q e;rw [e] at q;exact fs_irrefl _ q
theorem St.ok.nams {st:St} (h:st.ok):∀ e∈st.refs++st.tags,st.has 3 e.2=true:=by
 intro e he
 rcases List.mem_append.1 he with q | q
 ·exact h.names e.1 e.2 (.inl (nget_of (nrise_nodup h.refs) q))
 ·exact h.names e.1 e.2 (.inr (nget_of (nrise_nodup h.tags) q))
theorem coms_rise {st:St} (h:st.ok) {i:Nat} {x y:UInt64} (hx:st.coms[i]? = some x) (hy:st.coms[i+1]? = some y):x<y:=by
 have h1:=risU_le ((st.objs.filter (λ o=>decide (o.kind=3))).map (·.id));have hn:st.coms.Nodup:=(List.mergeSort_perm _ _).nodup_iff.2 (coms_nodup h.one);obtain ⟨q1,e1⟩:=List.getElem?_eq_some_iff.1 hx;obtain ⟨q2,e2⟩:=List.getElem?_eq_some_iff.1 hy
 have h2:x<=y:=by
  rw [<- e1,<- e2];exact List.pairwise_iff_getElem.1 h1 i (i+1) q1 q2 (by omega)
 have h3:x≠y:=by
  intro e;have h4:=(List.pairwise_iff_getElem.1 hn) i (i+1) q1 q2 (by omega);rw [e1,e2] at h4;exact h4 e
 rw [UInt64.le_iff_toNat_le] at h2;rw [UInt64.lt_iff_toNat_lt]
 have h5:x.toNat≠y.toNat:=λ q=>h3 (UInt64.toNat_inj.1 q)
 omega
end Go.Proofs.YtjlokpjflgbgdaaGreat
