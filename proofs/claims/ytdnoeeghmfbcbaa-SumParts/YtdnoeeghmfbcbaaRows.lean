/-
  No cell of these rows narrows 'for every input' (looked for: loops, veiled, ifaces, maps, wideKeys, modest, calm, conditions, laid).
  DERIVED. THE GIVEN ROWS OF THIS SEAT. 4 by the template 'for every input the law returns true; each argument reads behind the call as it read before'; 0 by the template 'total and deterministic' (their statements: YtdnoeeghmfbcbaaTotals.lean).
  GIVEN WITH THE SEED: the statements are not yours to turn. If you find one false, say at which input.
  Laid BY PROGRAM, IN A SANDBOX (cutbox-rows.mjs): the forced cells as the released guide's own fill.sh prints them over the translation e9501b7d5ee7fb24… (all of the seat's roots in one cut). By AI agents, Wed Nov 11 2026. No macro, syntax, notation, axiom, sorry.
-/
import Derived.Test.YtdnoeeghmfbcbaaChecked
import GoSem.Claim
import GoSem.ClaimJoined
import GoSem.ClaimMapViews
import Derived.JoinedTies
import Derived.KernelRfl
namespace Go.Proofs.Ytdnoeeghmfbcbaa
/- THE CELL 'sum', in the pinned program and in every row, IS THE sha256 OF THE DUMP (.gsa) THAT YtdnoeeghmfbcbaaProg.lean LOADS. Nothing in Lean hashes anything: it is a label: what it is worth is what the hold of that sum in a sandbox is worth. -/
noncomputable def Try.pinned : Pinned := { name := "ytdnoeeghmfbcbaa", sum := "e9501b7d5ee7fb245d84d52c3da3b306f82ad16adc18e317eb23922e98d58e36", checked := Try.checked }
namespace Rows
def none {H : Type} : Left H := { results := [], args := [] }

/-- 'forebearlaw01.SumIDs': WHATEVER THE INPUT: true; the input reads as it did. -/
def sumIDsSpec : ChangeSpec := { name := "sumIDs", fn := fun _ => fun
  | [d1, d2] => { results := [.lit (.bool true)], args := [d1, d2] }
  | _ => none }
def sumIDsRow : OpenClaim := { program := "ytdnoeeghmfbcbaa", sum := "e9501b7d5ee7fb245d84d52c3da3b306f82ad16adc18e317eb23922e98d58e36", func := "forebear/forebearlaw01.SumIDs", spec := "sumIDs", inPlace := ["internal/bytealg.IndexByteString"], apart := false }
def SumIDsSaid : Prop := sumIDsRow.holds Try.pinned (OpenSpec.ofChange sumIDsSpec)

/-- ITS FALSE NEIGHBOUR: 'it returns false'. Refute it at one input. -/
def sumIDsWrong : ChangeSpec := { name := "sumIDs", fn := fun _ => fun
  | [d1, d2] => { results := [.lit (.bool false)], args := [d1, d2] }
  | _ => none }
def SumIDsWrongFalsely : Prop := sumIDsRow.holds Try.pinned (OpenSpec.ofChange sumIDsWrong)

/-- 'forebearlaw01.SumParts': WHATEVER THE INPUT: true; the input reads as it did. -/
def sumPartsSpec : ChangeSpec := { name := "sumParts", fn := fun _ => fun
  | [d1, d2] => { results := [.lit (.bool true)], args := [d1, d2] }
  | _ => none }
def sumPartsRow : OpenClaim := { program := "ytdnoeeghmfbcbaa", sum := "e9501b7d5ee7fb245d84d52c3da3b306f82ad16adc18e317eb23922e98d58e36", func := "forebear/forebearlaw01.SumParts", spec := "sumParts", inPlace := ["internal/bytealg.IndexByteString"], apart := false }
def SumPartsSaid : Prop := sumPartsRow.holds Try.pinned (OpenSpec.ofChange sumPartsSpec)

/-- ITS FALSE NEIGHBOUR: 'it returns false'. Refute it at one input. -/
def sumPartsWrong : ChangeSpec := { name := "sumParts", fn := fun _ => fun
  | [d1, d2] => { results := [.lit (.bool false)], args := [d1, d2] }
  | _ => none }
def SumPartsWrongFalsely : Prop := sumPartsRow.holds Try.pinned (OpenSpec.ofChange sumPartsWrong)

/-- 'forebearlaw01.SumSpreads': WHATEVER THE INPUT: true; the input reads as it did. -/
def sumSpreadsSpec : ChangeSpec := { name := "sumSpreads", fn := fun _ => fun
  | [d1, d2] => { results := [.lit (.bool true)], args := [d1, d2] }
  | _ => none }
def sumSpreadsRow : OpenClaim := { program := "ytdnoeeghmfbcbaa", sum := "e9501b7d5ee7fb245d84d52c3da3b306f82ad16adc18e317eb23922e98d58e36", func := "forebear/forebearlaw01.SumSpreads", spec := "sumSpreads", inPlace := ["internal/bytealg.IndexByteString"], apart := false }
def SumSpreadsSaid : Prop := sumSpreadsRow.holds Try.pinned (OpenSpec.ofChange sumSpreadsSpec)

/-- ITS FALSE NEIGHBOUR: 'it returns false'. Refute it at one input. -/
def sumSpreadsWrong : ChangeSpec := { name := "sumSpreads", fn := fun _ => fun
  | [d1, d2] => { results := [.lit (.bool false)], args := [d1, d2] }
  | _ => none }
def SumSpreadsWrongFalsely : Prop := sumSpreadsRow.holds Try.pinned (OpenSpec.ofChange sumSpreadsWrong)

/-- 'forebearlaw01.SumHex': WHATEVER THE INPUT: true; the input reads as it did. -/
def sumHexSpec : ChangeSpec := { name := "sumHex", fn := fun _ => fun
  | [d1, d2] => { results := [.lit (.bool true)], args := [d1, d2] }
  | _ => none }
def sumHexRow : OpenClaim := { program := "ytdnoeeghmfbcbaa", sum := "e9501b7d5ee7fb245d84d52c3da3b306f82ad16adc18e317eb23922e98d58e36", func := "forebear/forebearlaw01.SumHex", spec := "sumHex", inPlace := ["internal/bytealg.IndexByteString"], apart := false }
def SumHexSaid : Prop := sumHexRow.holds Try.pinned (OpenSpec.ofChange sumHexSpec)

/-- ITS FALSE NEIGHBOUR: 'it returns false'. Refute it at one input. -/
def sumHexWrong : ChangeSpec := { name := "sumHex", fn := fun _ => fun
  | [d1, d2] => { results := [.lit (.bool false)], args := [d1, d2] }
  | _ => none }
def SumHexWrongFalsely : Prop := sumHexRow.holds Try.pinned (OpenSpec.ofChange sumHexWrong)

/- THE SECOND FORM. 'bulk': how many values and letters a reading holds, each counted each time it is reached (what is shared counts as often as it is met; a slice's spare places count too). A statement '..UptoSaid' is the law's where the arguments, and the package variables that the reading takes, are together of bulk at most 1048576: NARROWER than '..Said'. Prove '..Said' where nothing that the law and all that it calls make is longer than what came in: it says more and counts as full. Else prove '..UptoSaid'. A law counts once. -/
mutual
def uptoBulk {H : Type} : DataW H → Nat
  | .lit (.string bytes) => bytes.length + 1
  | .lit _ => 1
  | .nil => 1
  | .ptr d => uptoBulk d + 1
  | .slice elems spare => uptoBulkAll elems + uptoBulkAll spare + 1
  | .agg parts => uptoBulkAll parts + 1
  | .iface _ d => uptoBulk d + 1
  | .map entries => uptoBulkEntries entries + 1
  | .held _ => 1
def uptoBulkAll {H : Type} : List (DataW H) → Nat
  | [] => 0
  | d :: r => uptoBulk d + uptoBulkAll r
def uptoBulkEntries {H : Type} : List (Lit × DataW H) → Nat
  | [] => 0
  | x :: r => uptoBulkEntry x + uptoBulkEntries r
def uptoBulkEntry {H : Type} : Lit × DataW H → Nat
  | (.string bytes, d) => bytes.length + uptoBulk d + 1
  | (_, d) => uptoBulk d + 1
 end
def uptoSmall : (H : Type) → List (DataW H) → Bool := fun _ ds => decide (uptoBulkAll ds ≤ 1048576)
def OpenSpec.upto (s : _root_.Go.ChangeSpec) : _root_.Go.OpenSpec := { _root_.Go.OpenSpec.ofChange s with cond := some uptoSmall }

/-- 'forebearlaw01.SumIDs', WHERE WHAT IT READS IS OF BULK AT MOST 1048576: true; the input reads as it did. -/
def sumIDsUptoRow : OpenClaim := { program := "ytdnoeeghmfbcbaa", sum := "e9501b7d5ee7fb245d84d52c3da3b306f82ad16adc18e317eb23922e98d58e36", func := "forebear/forebearlaw01.SumIDs", spec := "sumIDs", inPlace := ["internal/bytealg.IndexByteString"], apart := false, narrowed := true }
def SumIDsUptoSaid : Prop := sumIDsUptoRow.holds Try.pinned (OpenSpec.upto sumIDsSpec)

/-- 'forebearlaw01.SumParts', WHERE WHAT IT READS IS OF BULK AT MOST 1048576: true; the input reads as it did. -/
def sumPartsUptoRow : OpenClaim := { program := "ytdnoeeghmfbcbaa", sum := "e9501b7d5ee7fb245d84d52c3da3b306f82ad16adc18e317eb23922e98d58e36", func := "forebear/forebearlaw01.SumParts", spec := "sumParts", inPlace := ["internal/bytealg.IndexByteString"], apart := false, narrowed := true }
def SumPartsUptoSaid : Prop := sumPartsUptoRow.holds Try.pinned (OpenSpec.upto sumPartsSpec)

/-- 'forebearlaw01.SumSpreads', WHERE WHAT IT READS IS OF BULK AT MOST 1048576: true; the input reads as it did. -/
def sumSpreadsUptoRow : OpenClaim := { program := "ytdnoeeghmfbcbaa", sum := "e9501b7d5ee7fb245d84d52c3da3b306f82ad16adc18e317eb23922e98d58e36", func := "forebear/forebearlaw01.SumSpreads", spec := "sumSpreads", inPlace := ["internal/bytealg.IndexByteString"], apart := false, narrowed := true }
def SumSpreadsUptoSaid : Prop := sumSpreadsUptoRow.holds Try.pinned (OpenSpec.upto sumSpreadsSpec)

/-- 'forebearlaw01.SumHex', WHERE WHAT IT READS IS OF BULK AT MOST 1048576: true; the input reads as it did. -/
def sumHexUptoRow : OpenClaim := { program := "ytdnoeeghmfbcbaa", sum := "e9501b7d5ee7fb245d84d52c3da3b306f82ad16adc18e317eb23922e98d58e36", func := "forebear/forebearlaw01.SumHex", spec := "sumHex", inPlace := ["internal/bytealg.IndexByteString"], apart := false, narrowed := true }
def SumHexUptoSaid : Prop := sumHexUptoRow.holds Try.pinned (OpenSpec.upto sumHexSpec)

end Rows
end Go.Proofs.Ytdnoeeghmfbcbaa
