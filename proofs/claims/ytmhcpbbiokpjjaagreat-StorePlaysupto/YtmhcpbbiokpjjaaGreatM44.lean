/-
  What holds of a store that was read from a file: each commit with its tree and its parents, each tree with its blobs, names of commits that are there. No program.
-/
import Derived.Test.YtmhcpbbiokpjjaaGreatM43
set_option maxHeartbeats 6400000
set_option maxRecDepth 100000
namespace Go.Proofs.YtmhcpbbiokpjjaaGreat
open Go.RowKit
theorem Zmv {d:Dk} (h:d.ok):(sopen d).2.1.ok:=by
 unfold sopen
 split
 ·exact ZmF h _ _
 ·exact h
theorem ZmV {st:St} (h:st.ok) {i:UInt64} (hi:st.has 3 i=true):(st.com i).ps.length<=1000000:=by
 obtain ⟨b,hb⟩:=ZgU.1 hi;obtain ⟨c,h1,_⟩:=h.com _ (Za6 hb) rfl
 have e:st.com i=c:=by
  unfold St.com;rw [hb,Option.bind_some];have h1':rdcom b=some c:=h1;rw [h1']
  rfl
 rw [e];have:=Za3 (Zbr h1).1;omega
theorem ZlK {st:St} (h:st.ok) {i:UInt64} (hi:st.has 2 i=true):(st.files i).length<=1000000:=by
 obtain ⟨b,hb⟩:=ZgU.1 hi;obtain ⟨es,h1,_⟩:=h.tree _ (Za6 hb) rfl
 have e:st.files i=es:=by
  unfold St.files;rw [hb,Option.bind_some];have h1':rdtree b=some es:=h1;rw [h1']
  rfl
 rw [e];have:=(ZaQ (Zbf h1).1).1;omega
theorem ZdM {l:List (Nm UInt64)} (h:Zbk l):(l.map (·.1)).Nodup:=by
 refine List.pairwise_map.2 (h.imp ?_);intro a b q e;rw [e] at q;exact Zat _ q
end Go.Proofs.YtmhcpbbiokpjjaaGreat
