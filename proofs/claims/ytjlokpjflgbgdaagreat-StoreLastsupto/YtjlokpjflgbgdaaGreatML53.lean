/-
  StoreOnce: what holds between two rounds, and the call of Play within one.
-/
import Derived.Test.YtjlokpjflgbgdaaGreatML40
set_option maxHeartbeats 6400000
set_option maxRecDepth 100000
namespace Go.Proofs.YtjlokpjflgbgdaaGreat
open Go.RowKit
theorem set14 (a0 a1 a2 a3 a4 a5 a6 a7 a8 a9 a10 a11 a12 a13 n0 n1 n2 n3 n4 n5 n6 n7 n8 n9 n10 n11 n12 n13 : Value) : setL #[a0, a1, a2, a3, a4, a5, a6, a7, a8, a9, a10, a11, a12, a13] [n0, n1, n2, n3, n4, n5, n6, n7, n8, n9, n10, n11, n12, n13] 0 = #[n0, n1, n2, n3, n4, n5, n6, n7, n8, n9, n10, n11, n12, n13] := by simp [setL]
end Go.Proofs.YtjlokpjflgbgdaaGreat
