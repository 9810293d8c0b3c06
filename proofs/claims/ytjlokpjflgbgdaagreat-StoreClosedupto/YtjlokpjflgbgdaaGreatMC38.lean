/-
  The disk of a store's world: cut, restarted, asked; each by a contract. No condition.
-/
import Derived.Test.YtjlokpjflgbgdaaGreatMC31
set_option maxHeartbeats 6400000
set_option maxRecDepth 100000
namespace Go.Proofs.YtjlokpjflgbgdaaGreat
open Go.RowKit
section
variable {w w':World} {s b:Nat} {st:St} {d d':Dk} {U:Nat->Prop}
end
end Go.Proofs.YtjlokpjflgbgdaaGreat
