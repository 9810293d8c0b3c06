/-
  A map's values as they lie there, and keys that are texts. No program but the numbers of types; no condition.
-/
import Derived.Test.YtofbphmdkhocdaaGreatGBox
import Derived.Maps.Ext
import Derived.Maps.OwnSet
import Derived.Maps.RangeWalk
import Derived.Sort.KeysCollected
namespace Go.Proofs.YtofbphmdkhocdaaGreat
open Go.RowKit

/-- A map's value, as it lies there. -/
def heldR (v : Value) : Option (DataW Value × List MemPlace) := some (.held v, [])

theorem keyedS : Maps.Keyed Tryz.prog 9 := Maps.string_keyed Tryz.underlying9

theorem key_of (s : ByteArray) (h : s.size ≤ maxLen) : keyOf Tryz.prog 9 (.string s) = some (.string s.data.toList) := WideMaps.keyOf_string_mk Tryz.underlying9 h

end Go.Proofs.YtofbphmdkhocdaaGreat
