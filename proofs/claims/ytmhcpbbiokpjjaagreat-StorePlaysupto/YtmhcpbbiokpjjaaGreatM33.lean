/-
  Several texts, laid together.
-/
import Derived.Test.YtmhcpbbiokpjjaaGreatM32
import Derived.Sort.OwnSorted
import Derived.Lib.OwnBridge
set_option maxHeartbeats 6400000
set_option maxRecDepth 100000
namespace Go.Proofs.YtmhcpbbiokpjjaaGreat
open Go.RowKit Go.Sort
end Go.Proofs.YtmhcpbbiokpjjaaGreat
namespace Go.Proofs.YtmhcpbbiokpjjaaGreat
open Go.RowKit
def keep (kept:List Bs) (p:Bs):List Bs:=if kept.any (under p) then kept else kept++[p]
def pre (p:Bs):Nat->List Bs
 | 0=>[]
 | i+1=>if p[i]? = some 47 then pre p i++[p.take i] else pre p i
end Go.Proofs.YtmhcpbbiokpjjaaGreat
