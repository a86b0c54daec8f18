/-
  No cell of these rows narrows 'for every input' (looked for: loops, veiled, ifaces, maps, wideKeys, modest, calm, conditions, laid).
  DERIVED. THE GIVEN ROWS OF THIS SEAT. 6 by the template 'for every input the law returns true; each argument reads behind the call as it read before'; 0 by the template 'total and deterministic' (their statements: YtlddogigbodilaaTotals.lean).
  GIVEN WITH THE SEED: the statements are not yours to turn. If you find one false, say at which input.
  Laid BY PROGRAM, IN A SANDBOX (cutbox-rows.mjs): the forced cells as the released guide's own fill.sh prints them over the translation 8f7ba36f88e00985… (all of the seat's roots in one cut). By AI agents, Wed Nov 11 2026. No macro, syntax, notation, axiom, sorry.
-/
import Derived.Test.YtlddogigbodilaaChecked
import GoSem.Claim
import GoSem.ClaimJoined
import GoSem.ClaimMapViews
import Derived.JoinedTies
import Derived.KernelRfl
namespace Go.Proofs.Ytlddogigbodilaa
/- THE CELL 'sum', in the pinned program and in every row, IS THE sha256 OF THE DUMP (.gsa) THAT YtlddogigbodilaaProg.lean LOADS. Nothing in Lean hashes anything: it is a label: what it is worth is what the hold of that sum in a sandbox is worth. -/
noncomputable def Try.pinned : Pinned := { name := "ytlddogigbodilaa", sum := "8f7ba36f88e00985aed99f2d70636cf0c0f0f84c624ac6e68a18f4fb724f55a4", checked := Try.checked }
namespace Rows
def none {H : Type} : Left H := { results := [], args := [] }

/-- 'salvorlaw5.ScanFrames': WHATEVER THE INPUT: true; the input reads as it did. -/
def scanFramesSpec : ChangeSpec := { name := "scanFrames", fn := fun _ => fun
  | [d1, d2] => { results := [.lit (.bool true)], args := [d1, d2] }
  | _ => none }
def scanFramesRow : OpenClaim := { program := "ytlddogigbodilaa", sum := "8f7ba36f88e00985aed99f2d70636cf0c0f0f84c624ac6e68a18f4fb724f55a4", func := "salvor/salvorlaw5.ScanFrames", spec := "scanFrames", inPlace := ["internal/bytealg.IndexByte"], unfollowed := true, recurses := true, apart := false }
def ScanFramesSaid : Prop := scanFramesRow.holds Try.pinned (OpenSpec.ofChange scanFramesSpec)

/-- ITS FALSE NEIGHBOUR: 'it returns false'. Refute it at one input. -/
def scanFramesWrong : ChangeSpec := { name := "scanFrames", fn := fun _ => fun
  | [d1, d2] => { results := [.lit (.bool false)], args := [d1, d2] }
  | _ => none }
def ScanFramesWrongFalsely : Prop := scanFramesRow.holds Try.pinned (OpenSpec.ofChange scanFramesWrong)

/-- 'salvorlaw5.ScanRecords': WHATEVER THE INPUT: true; the input reads as it did. -/
def scanRecordsSpec : ChangeSpec := { name := "scanRecords", fn := fun _ => fun
  | [d1, d2] => { results := [.lit (.bool true)], args := [d1, d2] }
  | _ => none }
def scanRecordsRow : OpenClaim := { program := "ytlddogigbodilaa", sum := "8f7ba36f88e00985aed99f2d70636cf0c0f0f84c624ac6e68a18f4fb724f55a4", func := "salvor/salvorlaw5.ScanRecords", spec := "scanRecords", inPlace := ["internal/bytealg.IndexByte"], unfollowed := true, recurses := true, apart := false }
def ScanRecordsSaid : Prop := scanRecordsRow.holds Try.pinned (OpenSpec.ofChange scanRecordsSpec)

/-- ITS FALSE NEIGHBOUR: 'it returns false'. Refute it at one input. -/
def scanRecordsWrong : ChangeSpec := { name := "scanRecords", fn := fun _ => fun
  | [d1, d2] => { results := [.lit (.bool false)], args := [d1, d2] }
  | _ => none }
def ScanRecordsWrongFalsely : Prop := scanRecordsRow.holds Try.pinned (OpenSpec.ofChange scanRecordsWrong)

/-- 'salvorlaw5.ScanExtents': WHATEVER THE INPUT: true; the input reads as it did. -/
def scanExtentsSpec : ChangeSpec := { name := "scanExtents", fn := fun _ => fun
  | [d1, d2, d3] => { results := [.lit (.bool true)], args := [d1, d2, d3] }
  | _ => none }
def scanExtentsRow : OpenClaim := { program := "ytlddogigbodilaa", sum := "8f7ba36f88e00985aed99f2d70636cf0c0f0f84c624ac6e68a18f4fb724f55a4", func := "salvor/salvorlaw5.ScanExtents", spec := "scanExtents", inPlace := ["internal/bytealg.IndexByte"], unfollowed := true, recurses := true, apart := false }
def ScanExtentsSaid : Prop := scanExtentsRow.holds Try.pinned (OpenSpec.ofChange scanExtentsSpec)

/-- ITS FALSE NEIGHBOUR: 'it returns false'. Refute it at one input. -/
def scanExtentsWrong : ChangeSpec := { name := "scanExtents", fn := fun _ => fun
  | [d1, d2, d3] => { results := [.lit (.bool false)], args := [d1, d2, d3] }
  | _ => none }
def ScanExtentsWrongFalsely : Prop := scanExtentsRow.holds Try.pinned (OpenSpec.ofChange scanExtentsWrong)

/-- 'salvorlaw10.HintLoads': WHATEVER THE INPUT: true; the input reads as it did. -/
def hintLoadsSpec : ChangeSpec := { name := "hintLoads", fn := fun _ => fun
  | [d1, d2] => { results := [.lit (.bool true)], args := [d1, d2] }
  | _ => none }
def hintLoadsRow : OpenClaim := { program := "ytlddogigbodilaa", sum := "8f7ba36f88e00985aed99f2d70636cf0c0f0f84c624ac6e68a18f4fb724f55a4", func := "salvor/salvorlaw10.HintLoads", spec := "hintLoads", inPlace := ["internal/bytealg.IndexByte"], unfollowed := true, recurses := true, apart := false }
def HintLoadsSaid : Prop := hintLoadsRow.holds Try.pinned (OpenSpec.ofChange hintLoadsSpec)

/-- ITS FALSE NEIGHBOUR: 'it returns false'. Refute it at one input. -/
def hintLoadsWrong : ChangeSpec := { name := "hintLoads", fn := fun _ => fun
  | [d1, d2] => { results := [.lit (.bool false)], args := [d1, d2] }
  | _ => none }
def HintLoadsWrongFalsely : Prop := hintLoadsRow.holds Try.pinned (OpenSpec.ofChange hintLoadsWrong)

/-- 'salvortop.TopScanned': WHATEVER THE INPUT: true; the input reads as it did. -/
def topScannedSpec : ChangeSpec := { name := "topScanned", fn := fun _ => fun
  | [d1, d2] => { results := [.lit (.bool true)], args := [d1, d2] }
  | _ => none }
def topScannedRow : OpenClaim := { program := "ytlddogigbodilaa", sum := "8f7ba36f88e00985aed99f2d70636cf0c0f0f84c624ac6e68a18f4fb724f55a4", func := "salvor/salvortop.TopScanned", spec := "topScanned", inPlace := ["internal/bytealg.IndexByte"], unfollowed := true, recurses := true, apart := false }
def TopScannedSaid : Prop := topScannedRow.holds Try.pinned (OpenSpec.ofChange topScannedSpec)

/-- ITS FALSE NEIGHBOUR: 'it returns false'. Refute it at one input. -/
def topScannedWrong : ChangeSpec := { name := "topScanned", fn := fun _ => fun
  | [d1, d2] => { results := [.lit (.bool false)], args := [d1, d2] }
  | _ => none }
def TopScannedWrongFalsely : Prop := topScannedRow.holds Try.pinned (OpenSpec.ofChange topScannedWrong)

/-- 'salvortop.TopHinted': WHATEVER THE INPUT: true; the input reads as it did. -/
def topHintedSpec : ChangeSpec := { name := "topHinted", fn := fun _ => fun
  | [d1, d2, d3, d4] => { results := [.lit (.bool true)], args := [d1, d2, d3, d4] }
  | _ => none }
def topHintedRow : OpenClaim := { program := "ytlddogigbodilaa", sum := "8f7ba36f88e00985aed99f2d70636cf0c0f0f84c624ac6e68a18f4fb724f55a4", func := "salvor/salvortop.TopHinted", spec := "topHinted", inPlace := ["internal/bytealg.IndexByte"], unfollowed := true, recurses := true, apart := false }
def TopHintedSaid : Prop := topHintedRow.holds Try.pinned (OpenSpec.ofChange topHintedSpec)

/-- ITS FALSE NEIGHBOUR: 'it returns false'. Refute it at one input. -/
def topHintedWrong : ChangeSpec := { name := "topHinted", fn := fun _ => fun
  | [d1, d2, d3, d4] => { results := [.lit (.bool false)], args := [d1, d2, d3, d4] }
  | _ => none }
def TopHintedWrongFalsely : Prop := topHintedRow.holds Try.pinned (OpenSpec.ofChange topHintedWrong)

/- THE SECOND FORM. 'bulk': how many values and letters a reading holds, each counted each time it is reached (what is shared counts as often as it is met; a slice's spare places count too). A statement '..UptoSaid' is the law's where the arguments, and the package variables that the reading takes, are together of bulk at most 1048576: NARROWER than '..Said'. Prove '..Said' where nothing that the law and all that it calls make is longer than what came in: it says more and counts as full. Else prove '..UptoSaid'. A law counts once. -/
mutual
def uptoBulk {H : Type} : DataW H → Nat
  | .lit (.string bytes) => bytes.length + 1
  | .lit _ => 1
  | .nil => 1
  | .ptr d => uptoBulk d + 1
  | .slice elems spare => uptoBulkAll elems + uptoBulkAll spare + 1
  | .agg parts => uptoBulkAll parts + 1
  | .iface _ d => uptoBulk d + 1
  | .map entries => uptoBulkEntries entries + 1
  | .held _ => 1
def uptoBulkAll {H : Type} : List (DataW H) → Nat
  | [] => 0
  | d :: r => uptoBulk d + uptoBulkAll r
def uptoBulkEntries {H : Type} : List (Lit × DataW H) → Nat
  | [] => 0
  | x :: r => uptoBulkEntry x + uptoBulkEntries r
def uptoBulkEntry {H : Type} : Lit × DataW H → Nat
  | (.string bytes, d) => bytes.length + uptoBulk d + 1
  | (_, d) => uptoBulk d + 1
 end
def uptoSmall : (H : Type) → List (DataW H) → Bool := fun _ ds => decide (uptoBulkAll ds ≤ 1048576)
def OpenSpec.upto (s : _root_.Go.ChangeSpec) : _root_.Go.OpenSpec := { _root_.Go.OpenSpec.ofChange s with cond := some uptoSmall }

/-- 'salvorlaw5.ScanFrames', WHERE WHAT IT READS IS OF BULK AT MOST 1048576: true; the input reads as it did. -/
def scanFramesUptoRow : OpenClaim := { program := "ytlddogigbodilaa", sum := "8f7ba36f88e00985aed99f2d70636cf0c0f0f84c624ac6e68a18f4fb724f55a4", func := "salvor/salvorlaw5.ScanFrames", spec := "scanFrames", inPlace := ["internal/bytealg.IndexByte"], unfollowed := true, recurses := true, apart := false, narrowed := true }
def ScanFramesUptoSaid : Prop := scanFramesUptoRow.holds Try.pinned (OpenSpec.upto scanFramesSpec)

/-- 'salvorlaw5.ScanRecords', WHERE WHAT IT READS IS OF BULK AT MOST 1048576: true; the input reads as it did. -/
def scanRecordsUptoRow : OpenClaim := { program := "ytlddogigbodilaa", sum := "8f7ba36f88e00985aed99f2d70636cf0c0f0f84c624ac6e68a18f4fb724f55a4", func := "salvor/salvorlaw5.ScanRecords", spec := "scanRecords", inPlace := ["internal/bytealg.IndexByte"], unfollowed := true, recurses := true, apart := false, narrowed := true }
def ScanRecordsUptoSaid : Prop := scanRecordsUptoRow.holds Try.pinned (OpenSpec.upto scanRecordsSpec)

/-- 'salvorlaw5.ScanExtents', WHERE WHAT IT READS IS OF BULK AT MOST 1048576: true; the input reads as it did. -/
def scanExtentsUptoRow : OpenClaim := { program := "ytlddogigbodilaa", sum := "8f7ba36f88e00985aed99f2d70636cf0c0f0f84c624ac6e68a18f4fb724f55a4", func := "salvor/salvorlaw5.ScanExtents", spec := "scanExtents", inPlace := ["internal/bytealg.IndexByte"], unfollowed := true, recurses := true, apart := false, narrowed := true }
def ScanExtentsUptoSaid : Prop := scanExtentsUptoRow.holds Try.pinned (OpenSpec.upto scanExtentsSpec)

/-- 'salvorlaw10.HintLoads', WHERE WHAT IT READS IS OF BULK AT MOST 1048576: true; the input reads as it did. -/
def hintLoadsUptoRow : OpenClaim := { program := "ytlddogigbodilaa", sum := "8f7ba36f88e00985aed99f2d70636cf0c0f0f84c624ac6e68a18f4fb724f55a4", func := "salvor/salvorlaw10.HintLoads", spec := "hintLoads", inPlace := ["internal/bytealg.IndexByte"], unfollowed := true, recurses := true, apart := false, narrowed := true }
def HintLoadsUptoSaid : Prop := hintLoadsUptoRow.holds Try.pinned (OpenSpec.upto hintLoadsSpec)

/-- 'salvortop.TopScanned', WHERE WHAT IT READS IS OF BULK AT MOST 1048576: true; the input reads as it did. -/
def topScannedUptoRow : OpenClaim := { program := "ytlddogigbodilaa", sum := "8f7ba36f88e00985aed99f2d70636cf0c0f0f84c624ac6e68a18f4fb724f55a4", func := "salvor/salvortop.TopScanned", spec := "topScanned", inPlace := ["internal/bytealg.IndexByte"], unfollowed := true, recurses := true, apart := false, narrowed := true }
def TopScannedUptoSaid : Prop := topScannedUptoRow.holds Try.pinned (OpenSpec.upto topScannedSpec)

/-- 'salvortop.TopHinted', WHERE WHAT IT READS IS OF BULK AT MOST 1048576: true; the input reads as it did. -/
def topHintedUptoRow : OpenClaim := { program := "ytlddogigbodilaa", sum := "8f7ba36f88e00985aed99f2d70636cf0c0f0f84c624ac6e68a18f4fb724f55a4", func := "salvor/salvortop.TopHinted", spec := "topHinted", inPlace := ["internal/bytealg.IndexByte"], unfollowed := true, recurses := true, apart := false, narrowed := true }
def TopHintedUptoSaid : Prop := topHintedUptoRow.holds Try.pinned (OpenSpec.upto topHintedSpec)

end Rows
end Go.Proofs.Ytlddogigbodilaa
