/-
  No cell of these rows narrows 'for every input' (looked for: loops, veiled, ifaces, maps, wideKeys, modest, calm, conditions, laid).
  DERIVED. THE GIVEN ROWS OF THIS SEAT. 3 by the template 'for every input the law returns true; each argument reads behind the call as it read before'; 0 by the template 'total and deterministic' (their statements: YtakgkgmopmcecaaGreatTotals.lean).
  GIVEN WITH THE SEED: the statements are not yours to turn. If you find one false, say at which input.
  Laid BY PROGRAM, IN A SANDBOX (cutbox-rows.mjs): the forced cells as the released guide's own fill.sh prints them over the translation d3400522dd48529b… (all of the seat's roots in one cut). By AI agents, Wed Nov 11 2026. No macro, syntax, notation, axiom, sorry.
-/
import Derived.Test.YtakgkgmopmcecaaGreatChecked
import GoSem.Claim
import GoSem.ClaimJoined
import GoSem.ClaimMapViews
import Derived.JoinedTies
import Derived.KernelRfl
namespace Go.Proofs.YtakgkgmopmcecaaGreat
/- THE CELL 'sum', in the pinned program and in every row, IS THE sha256 OF THE DUMP (.gsa) THAT YtakgkgmopmcecaaGreatProg.lean LOADS. Nothing in Lean hashes anything: it is a label: what it is worth is what the hold of that sum in a sandbox is worth. -/
noncomputable def Tryz.pinned : Pinned := { name := "ytakgkgmopmcecaagreat", sum := "d3400522dd48529bb9ab1104090f5a695643e5c611890a588c8f7f9f241bd9c7", checked := Tryz.checked }
namespace Rows
def none {H : Type} : Left H := { results := [], args := [] }

/-- 'forebearlaw12.LayerBack': WHATEVER THE INPUT: true; the input reads as it did. -/
def layerBackSpec : ChangeSpec := { name := "layerBack", fn := fun _ => fun
  | [d1, d2, d3, d4] => { results := [.lit (.bool true)], args := [d1, d2, d3, d4] }
  | _ => none }
def layerBackRow : OpenClaim := { program := "ytakgkgmopmcecaagreat", sum := "d3400522dd48529bb9ab1104090f5a695643e5c611890a588c8f7f9f241bd9c7", func := "forebear/forebearlaw12.LayerBack", spec := "layerBack", inPlace := ["internal/bytealg.IndexByteString", "internal/bytealg.IndexString"], unfollowed := true, recurses := true, named := ["internal/bytealg.MaxLen"], apart := false }
def LayerBackSaid : Prop := layerBackRow.holds Tryz.pinned (OpenSpec.ofChange layerBackSpec)

/-- ITS FALSE NEIGHBOUR: 'it returns false'. Refute it at one input. -/
def layerBackWrong : ChangeSpec := { name := "layerBack", fn := fun _ => fun
  | [d1, d2, d3, d4] => { results := [.lit (.bool false)], args := [d1, d2, d3, d4] }
  | _ => none }
def LayerBackWrongFalsely : Prop := layerBackRow.holds Tryz.pinned (OpenSpec.ofChange layerBackWrong)

/-- 'forebearlaw12.LayerVerifies': WHATEVER THE INPUT: true; the input reads as it did. -/
def layerVerifiesSpec : ChangeSpec := { name := "layerVerifies", fn := fun _ => fun
  | [d1, d2, d3, d4, d5] => { results := [.lit (.bool true)], args := [d1, d2, d3, d4, d5] }
  | _ => none }
def layerVerifiesRow : OpenClaim := { program := "ytakgkgmopmcecaagreat", sum := "d3400522dd48529bb9ab1104090f5a695643e5c611890a588c8f7f9f241bd9c7", func := "forebear/forebearlaw12.LayerVerifies", spec := "layerVerifies", inPlace := ["internal/bytealg.IndexByteString", "internal/bytealg.IndexString"], unfollowed := true, recurses := true, named := ["internal/bytealg.MaxLen"], apart := false }
def LayerVerifiesSaid : Prop := layerVerifiesRow.holds Tryz.pinned (OpenSpec.ofChange layerVerifiesSpec)

/-- ITS FALSE NEIGHBOUR: 'it returns false'. Refute it at one input. -/
def layerVerifiesWrong : ChangeSpec := { name := "layerVerifies", fn := fun _ => fun
  | [d1, d2, d3, d4, d5] => { results := [.lit (.bool false)], args := [d1, d2, d3, d4, d5] }
  | _ => none }
def LayerVerifiesWrongFalsely : Prop := layerVerifiesRow.holds Tryz.pinned (OpenSpec.ofChange layerVerifiesWrong)

/-- 'forebearlaw12.LayerForged': WHATEVER THE INPUT: true; the input reads as it did. -/
def layerForgedSpec : ChangeSpec := { name := "layerForged", fn := fun _ => fun
  | [d1, d2, d3, d4] => { results := [.lit (.bool true)], args := [d1, d2, d3, d4] }
  | _ => none }
def layerForgedRow : OpenClaim := { program := "ytakgkgmopmcecaagreat", sum := "d3400522dd48529bb9ab1104090f5a695643e5c611890a588c8f7f9f241bd9c7", func := "forebear/forebearlaw12.LayerForged", spec := "layerForged", inPlace := ["internal/bytealg.IndexByteString", "internal/bytealg.IndexString"], unfollowed := true, recurses := true, named := ["internal/bytealg.MaxLen"], apart := false }
def LayerForgedSaid : Prop := layerForgedRow.holds Tryz.pinned (OpenSpec.ofChange layerForgedSpec)

/-- ITS FALSE NEIGHBOUR: 'it returns false'. Refute it at one input. -/
def layerForgedWrong : ChangeSpec := { name := "layerForged", fn := fun _ => fun
  | [d1, d2, d3, d4] => { results := [.lit (.bool false)], args := [d1, d2, d3, d4] }
  | _ => none }
def LayerForgedWrongFalsely : Prop := layerForgedRow.holds Tryz.pinned (OpenSpec.ofChange layerForgedWrong)

/- THE SECOND FORM. 'bulk': how many values and letters a reading holds, each counted each time it is reached (what is shared counts as often as it is met; a slice's spare places count too). A statement '..UptoSaid' is the law's where the arguments, and the package variables that the reading takes, are together of bulk at most 1048576: NARROWER than '..Said'. Prove '..Said' where nothing that the law and all that it calls make is longer than what came in: it says more and counts as full. Else prove '..UptoSaid'. A law counts once. -/
mutual
def uptoBulk {H : Type} : DataW H → Nat
  | .lit (.string bytes) => bytes.length + 1
  | .lit _ => 1
  | .nil => 1
  | .ptr d => uptoBulk d + 1
  | .slice elems spare => uptoBulkAll elems + uptoBulkAll spare + 1
  | .agg parts => uptoBulkAll parts + 1
  | .iface _ d => uptoBulk d + 1
  | .map entries => uptoBulkEntries entries + 1
  | .held _ => 1
def uptoBulkAll {H : Type} : List (DataW H) → Nat
  | [] => 0
  | d :: r => uptoBulk d + uptoBulkAll r
def uptoBulkEntries {H : Type} : List (Lit × DataW H) → Nat
  | [] => 0
  | x :: r => uptoBulkEntry x + uptoBulkEntries r
def uptoBulkEntry {H : Type} : Lit × DataW H → Nat
  | (.string bytes, d) => bytes.length + uptoBulk d + 1
  | (_, d) => uptoBulk d + 1
 end
def uptoSmall : (H : Type) → List (DataW H) → Bool := fun _ ds => decide (uptoBulkAll ds ≤ 1048576)
def OpenSpec.upto (s : _root_.Go.ChangeSpec) : _root_.Go.OpenSpec := { _root_.Go.OpenSpec.ofChange s with cond := some uptoSmall }

/-- 'forebearlaw12.LayerBack', WHERE WHAT IT READS IS OF BULK AT MOST 1048576: true; the input reads as it did. -/
def layerBackUptoRow : OpenClaim := { program := "ytakgkgmopmcecaagreat", sum := "d3400522dd48529bb9ab1104090f5a695643e5c611890a588c8f7f9f241bd9c7", func := "forebear/forebearlaw12.LayerBack", spec := "layerBack", inPlace := ["internal/bytealg.IndexByteString", "internal/bytealg.IndexString"], unfollowed := true, recurses := true, named := ["internal/bytealg.MaxLen"], apart := false, narrowed := true }
def LayerBackUptoSaid : Prop := layerBackUptoRow.holds Tryz.pinned (OpenSpec.upto layerBackSpec)

/-- 'forebearlaw12.LayerVerifies', WHERE WHAT IT READS IS OF BULK AT MOST 1048576: true; the input reads as it did. -/
def layerVerifiesUptoRow : OpenClaim := { program := "ytakgkgmopmcecaagreat", sum := "d3400522dd48529bb9ab1104090f5a695643e5c611890a588c8f7f9f241bd9c7", func := "forebear/forebearlaw12.LayerVerifies", spec := "layerVerifies", inPlace := ["internal/bytealg.IndexByteString", "internal/bytealg.IndexString"], unfollowed := true, recurses := true, named := ["internal/bytealg.MaxLen"], apart := false, narrowed := true }
def LayerVerifiesUptoSaid : Prop := layerVerifiesUptoRow.holds Tryz.pinned (OpenSpec.upto layerVerifiesSpec)

/-- 'forebearlaw12.LayerForged', WHERE WHAT IT READS IS OF BULK AT MOST 1048576: true; the input reads as it did. -/
def layerForgedUptoRow : OpenClaim := { program := "ytakgkgmopmcecaagreat", sum := "d3400522dd48529bb9ab1104090f5a695643e5c611890a588c8f7f9f241bd9c7", func := "forebear/forebearlaw12.LayerForged", spec := "layerForged", inPlace := ["internal/bytealg.IndexByteString", "internal/bytealg.IndexString"], unfollowed := true, recurses := true, named := ["internal/bytealg.MaxLen"], apart := false, narrowed := true }
def LayerForgedUptoSaid : Prop := layerForgedUptoRow.holds Tryz.pinned (OpenSpec.upto layerForgedSpec)

end Rows
end Go.Proofs.YtakgkgmopmcecaaGreat
