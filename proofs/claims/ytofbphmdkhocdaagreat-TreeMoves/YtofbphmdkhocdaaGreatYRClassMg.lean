/-
  The reference's Has and blob over a class of worlds.
-/
import Derived.Test.YtofbphmdkhocdaaGreatM30
import Derived.Test.YtofbphmdkhocdaaGreatM03
namespace Go.Proofs.YtofbphmdkhocdaaGreat
open Go.RowKit

theorem rhas_class {W : World} {ao : Option Addr} {c n : Nat} {ss : List Bs} (x : Bs) (ha : Rd W ao ss) (hl : ss.length = n) (hn : n ≤ 4000000000000000000) (f : Bool) (hf : ss.any (· == x) = f) (u : SW (Grew W)) :
    Calls Tryz.prog 35 #[.slice ao n c, .string ⟨x.toArray⟩] u.w fun e w' => e = .returned (.bool f) ∧ ∃ u' : SW (Grew W), w' = u'.w := by
  refine (rhas_any x u.w (ha.below u.ok) hl hn f hf).mono ?_
  rintro e w' ⟨rfl, rfl⟩
  exact ⟨rfl, u, rfl⟩
theorem rblob_class {W : World} {ao : Option Addr} {c n : Nat} {es : List En} (p : Bs) (hr : RdG encE W ao es) (hl : es.length = n) (hn : n ≤ 4000000000000000000) (o : UInt64) (ho : blobOf es p = o) (u : SW (Grew W)) :
    Calls Tryz.prog 28 #[.slice ao n c, .string ⟨p.toArray⟩] u.w fun e w' => e = .returned (.int .u64 (o.toNat : Int)) ∧ ∃ u' : SW (Grew W), w' = u'.w := by
  refine (rblob_any p u.w (hr.below u.ok) hl hn o ho).mono ?_
  rintro e w' ⟨rfl, hb⟩
  exact ⟨rfl, ⟨w', Below.trans u.ok (hb.mono (Below.size u.ok))⟩, rfl⟩

end Go.Proofs.YtofbphmdkhocdaaGreat
