/-
  No cell of these rows narrows 'for every input' (looked for: loops, veiled, ifaces, maps, wideKeys, modest, calm, conditions, laid).
  DERIVED. THE GIVEN ROWS OF THIS SEAT. 6 by the template 'for every input the law returns true; each argument reads behind the call as it read before'; 0 by the template 'total and deterministic' (their statements: YtglnhppgoomehaaTotals.lean).
  GIVEN WITH THE SEED: the statements are not yours to turn. If you find one false, say at which input.
  Laid BY PROGRAM, IN A SANDBOX (cutbox-rows.mjs): the forced cells as the released guide's own fill.sh prints them over the translation eba598b5db17a929… (all of the seat's roots in one cut). By AI agents, Wed Nov 11 2026. No macro, syntax, notation, axiom, sorry.
-/
import Derived.Test.YtglnhppgoomehaaChecked
import GoSem.Claim
import GoSem.ClaimJoined
import GoSem.ClaimMapViews
import Derived.JoinedTies
import Derived.KernelRfl
namespace Go.Proofs.Ytglnhppgoomehaa
/- THE CELL 'sum', in the pinned program and in every row, IS THE sha256 OF THE DUMP (.gsa) THAT YtglnhppgoomehaaProg.lean LOADS. Nothing in Lean hashes anything: it is a label: what it is worth is what the hold of that sum in a sandbox is worth. -/
noncomputable def Try.pinned : Pinned := { name := "ytglnhppgoomehaa", sum := "eba598b5db17a929b151a837137370864e069fe0fa7e7d0fd775c51f689ecb89", checked := Try.checked }
namespace Rows
def none {H : Type} : Left H := { results := [], args := [] }

/-- 'salvorlaw6.NamesMakes': WHATEVER THE INPUT: true; the input reads as it did. -/
def namesMakesSpec : ChangeSpec := { name := "namesMakes", fn := fun _ => fun
  | [d1, d2] => { results := [.lit (.bool true)], args := [d1, d2] }
  | _ => none }
def namesMakesRow : OpenClaim := { program := "ytglnhppgoomehaa", sum := "eba598b5db17a929b151a837137370864e069fe0fa7e7d0fd775c51f689ecb89", func := "salvor/salvorlaw6.NamesMakes", spec := "namesMakes", apart := false }
def NamesMakesSaid : Prop := namesMakesRow.holds Try.pinned (OpenSpec.ofChange namesMakesSpec)

/-- ITS FALSE NEIGHBOUR: 'it returns false'. Refute it at one input. -/
def namesMakesWrong : ChangeSpec := { name := "namesMakes", fn := fun _ => fun
  | [d1, d2] => { results := [.lit (.bool false)], args := [d1, d2] }
  | _ => none }
def NamesMakesWrongFalsely : Prop := namesMakesRow.holds Try.pinned (OpenSpec.ofChange namesMakesWrong)

/-- 'salvorlaw6.NamesPairs': WHATEVER THE INPUT: true; the input reads as it did. -/
def namesPairsSpec : ChangeSpec := { name := "namesPairs", fn := fun _ => fun
  | [d] => { results := [.lit (.bool true)], args := [d] }
  | _ => none }
def namesPairsRow : OpenClaim := { program := "ytglnhppgoomehaa", sum := "eba598b5db17a929b151a837137370864e069fe0fa7e7d0fd775c51f689ecb89", func := "salvor/salvorlaw6.NamesPairs", spec := "namesPairs", inPlace := ["internal/bytealg.IndexByteString"], apart := false }
def NamesPairsSaid : Prop := namesPairsRow.holds Try.pinned (OpenSpec.ofChange namesPairsSpec)

/-- ITS FALSE NEIGHBOUR: 'it returns false'. Refute it at one input. -/
def namesPairsWrong : ChangeSpec := { name := "namesPairs", fn := fun _ => fun
  | [d] => { results := [.lit (.bool false)], args := [d] }
  | _ => none }
def NamesPairsWrongFalsely : Prop := namesPairsRow.holds Try.pinned (OpenSpec.ofChange namesPairsWrong)

/-- 'salvorlaw6.NamesBack': WHATEVER THE INPUT: true; the input reads as it did. -/
def namesBackSpec : ChangeSpec := { name := "namesBack", fn := fun _ => fun
  | [d1, d2, d3, d4] => { results := [.lit (.bool true)], args := [d1, d2, d3, d4] }
  | _ => none }
def namesBackRow : OpenClaim := { program := "ytglnhppgoomehaa", sum := "eba598b5db17a929b151a837137370864e069fe0fa7e7d0fd775c51f689ecb89", func := "salvor/salvorlaw6.NamesBack", spec := "namesBack", inPlace := ["internal/bytealg.IndexByteString"], apart := false }
def NamesBackSaid : Prop := namesBackRow.holds Try.pinned (OpenSpec.ofChange namesBackSpec)

/-- ITS FALSE NEIGHBOUR: 'it returns false'. Refute it at one input. -/
def namesBackWrong : ChangeSpec := { name := "namesBack", fn := fun _ => fun
  | [d1, d2, d3, d4] => { results := [.lit (.bool false)], args := [d1, d2, d3, d4] }
  | _ => none }
def NamesBackWrongFalsely : Prop := namesBackRow.holds Try.pinned (OpenSpec.ofChange namesBackWrong)

/-- 'salvorlaw6.NamesOnly': WHATEVER THE INPUT: true; the input reads as it did. -/
def namesOnlySpec : ChangeSpec := { name := "namesOnly", fn := fun _ => fun
  | [d] => { results := [.lit (.bool true)], args := [d] }
  | _ => none }
def namesOnlyRow : OpenClaim := { program := "ytglnhppgoomehaa", sum := "eba598b5db17a929b151a837137370864e069fe0fa7e7d0fd775c51f689ecb89", func := "salvor/salvorlaw6.NamesOnly", spec := "namesOnly", inPlace := ["internal/bytealg.IndexByteString"], apart := false }
def NamesOnlySaid : Prop := namesOnlyRow.holds Try.pinned (OpenSpec.ofChange namesOnlySpec)

/-- ITS FALSE NEIGHBOUR: 'it returns false'. Refute it at one input. -/
def namesOnlyWrong : ChangeSpec := { name := "namesOnly", fn := fun _ => fun
  | [d] => { results := [.lit (.bool false)], args := [d] }
  | _ => none }
def NamesOnlyWrongFalsely : Prop := namesOnlyRow.holds Try.pinned (OpenSpec.ofChange namesOnlyWrong)

/-- 'salvorlaw6.NamesParses': WHATEVER THE INPUT: true; the input reads as it did. -/
def namesParsesSpec : ChangeSpec := { name := "namesParses", fn := fun _ => fun
  | [d1, d2] => { results := [.lit (.bool true)], args := [d1, d2] }
  | _ => none }
def namesParsesRow : OpenClaim := { program := "ytglnhppgoomehaa", sum := "eba598b5db17a929b151a837137370864e069fe0fa7e7d0fd775c51f689ecb89", func := "salvor/salvorlaw6.NamesParses", spec := "namesParses", inPlace := ["internal/bytealg.IndexByteString"], apart := false }
def NamesParsesSaid : Prop := namesParsesRow.holds Try.pinned (OpenSpec.ofChange namesParsesSpec)

/-- ITS FALSE NEIGHBOUR: 'it returns false'. Refute it at one input. -/
def namesParsesWrong : ChangeSpec := { name := "namesParses", fn := fun _ => fun
  | [d1, d2] => { results := [.lit (.bool false)], args := [d1, d2] }
  | _ => none }
def NamesParsesWrongFalsely : Prop := namesParsesRow.holds Try.pinned (OpenSpec.ofChange namesParsesWrong)

/-- 'salvorlaw6.NamesNew': WHATEVER THE INPUT: true; the input reads as it did. -/
def namesNewSpec : ChangeSpec := { name := "namesNew", fn := fun _ => fun
  | [d1, d2] => { results := [.lit (.bool true)], args := [d1, d2] }
  | _ => none }
def namesNewRow : OpenClaim := { program := "ytglnhppgoomehaa", sum := "eba598b5db17a929b151a837137370864e069fe0fa7e7d0fd775c51f689ecb89", func := "salvor/salvorlaw6.NamesNew", spec := "namesNew", inPlace := ["internal/bytealg.IndexByteString"], apart := false }
def NamesNewSaid : Prop := namesNewRow.holds Try.pinned (OpenSpec.ofChange namesNewSpec)

/-- ITS FALSE NEIGHBOUR: 'it returns false'. Refute it at one input. -/
def namesNewWrong : ChangeSpec := { name := "namesNew", fn := fun _ => fun
  | [d1, d2] => { results := [.lit (.bool false)], args := [d1, d2] }
  | _ => none }
def NamesNewWrongFalsely : Prop := namesNewRow.holds Try.pinned (OpenSpec.ofChange namesNewWrong)

/- THE SECOND FORM. 'bulk': how many values and letters a reading holds, each counted each time it is reached (what is shared counts as often as it is met; a slice's spare places count too). A statement '..UptoSaid' is the law's where the arguments, and the package variables that the reading takes, are together of bulk at most 1048576: NARROWER than '..Said'. Prove '..Said' where nothing that the law and all that it calls make is longer than what came in: it says more and counts as full. Else prove '..UptoSaid'. A law counts once. -/
mutual
def uptoBulk {H : Type} : DataW H → Nat
  | .lit (.string bytes) => bytes.length + 1
  | .lit _ => 1
  | .nil => 1
  | .ptr d => uptoBulk d + 1
  | .slice elems spare => uptoBulkAll elems + uptoBulkAll spare + 1
  | .agg parts => uptoBulkAll parts + 1
  | .iface _ d => uptoBulk d + 1
  | .map entries => uptoBulkEntries entries + 1
  | .held _ => 1
def uptoBulkAll {H : Type} : List (DataW H) → Nat
  | [] => 0
  | d :: r => uptoBulk d + uptoBulkAll r
def uptoBulkEntries {H : Type} : List (Lit × DataW H) → Nat
  | [] => 0
  | x :: r => uptoBulkEntry x + uptoBulkEntries r
def uptoBulkEntry {H : Type} : Lit × DataW H → Nat
  | (.string bytes, d) => bytes.length + uptoBulk d + 1
  | (_, d) => uptoBulk d + 1
 end
def uptoSmall : (H : Type) → List (DataW H) → Bool := fun _ ds => decide (uptoBulkAll ds ≤ 1048576)
def OpenSpec.upto (s : _root_.Go.ChangeSpec) : _root_.Go.OpenSpec := { _root_.Go.OpenSpec.ofChange s with cond := some uptoSmall }

/-- 'salvorlaw6.NamesMakes', WHERE WHAT IT READS IS OF BULK AT MOST 1048576: true; the input reads as it did. -/
def namesMakesUptoRow : OpenClaim := { program := "ytglnhppgoomehaa", sum := "eba598b5db17a929b151a837137370864e069fe0fa7e7d0fd775c51f689ecb89", func := "salvor/salvorlaw6.NamesMakes", spec := "namesMakes", apart := false, narrowed := true }
def NamesMakesUptoSaid : Prop := namesMakesUptoRow.holds Try.pinned (OpenSpec.upto namesMakesSpec)

/-- 'salvorlaw6.NamesPairs', WHERE WHAT IT READS IS OF BULK AT MOST 1048576: true; the input reads as it did. -/
def namesPairsUptoRow : OpenClaim := { program := "ytglnhppgoomehaa", sum := "eba598b5db17a929b151a837137370864e069fe0fa7e7d0fd775c51f689ecb89", func := "salvor/salvorlaw6.NamesPairs", spec := "namesPairs", inPlace := ["internal/bytealg.IndexByteString"], apart := false, narrowed := true }
def NamesPairsUptoSaid : Prop := namesPairsUptoRow.holds Try.pinned (OpenSpec.upto namesPairsSpec)

/-- 'salvorlaw6.NamesBack', WHERE WHAT IT READS IS OF BULK AT MOST 1048576: true; the input reads as it did. -/
def namesBackUptoRow : OpenClaim := { program := "ytglnhppgoomehaa", sum := "eba598b5db17a929b151a837137370864e069fe0fa7e7d0fd775c51f689ecb89", func := "salvor/salvorlaw6.NamesBack", spec := "namesBack", inPlace := ["internal/bytealg.IndexByteString"], apart := false, narrowed := true }
def NamesBackUptoSaid : Prop := namesBackUptoRow.holds Try.pinned (OpenSpec.upto namesBackSpec)

/-- 'salvorlaw6.NamesOnly', WHERE WHAT IT READS IS OF BULK AT MOST 1048576: true; the input reads as it did. -/
def namesOnlyUptoRow : OpenClaim := { program := "ytglnhppgoomehaa", sum := "eba598b5db17a929b151a837137370864e069fe0fa7e7d0fd775c51f689ecb89", func := "salvor/salvorlaw6.NamesOnly", spec := "namesOnly", inPlace := ["internal/bytealg.IndexByteString"], apart := false, narrowed := true }
def NamesOnlyUptoSaid : Prop := namesOnlyUptoRow.holds Try.pinned (OpenSpec.upto namesOnlySpec)

/-- 'salvorlaw6.NamesParses', WHERE WHAT IT READS IS OF BULK AT MOST 1048576: true; the input reads as it did. -/
def namesParsesUptoRow : OpenClaim := { program := "ytglnhppgoomehaa", sum := "eba598b5db17a929b151a837137370864e069fe0fa7e7d0fd775c51f689ecb89", func := "salvor/salvorlaw6.NamesParses", spec := "namesParses", inPlace := ["internal/bytealg.IndexByteString"], apart := false, narrowed := true }
def NamesParsesUptoSaid : Prop := namesParsesUptoRow.holds Try.pinned (OpenSpec.upto namesParsesSpec)

/-- 'salvorlaw6.NamesNew', WHERE WHAT IT READS IS OF BULK AT MOST 1048576: true; the input reads as it did. -/
def namesNewUptoRow : OpenClaim := { program := "ytglnhppgoomehaa", sum := "eba598b5db17a929b151a837137370864e069fe0fa7e7d0fd775c51f689ecb89", func := "salvor/salvorlaw6.NamesNew", spec := "namesNew", inPlace := ["internal/bytealg.IndexByteString"], apart := false, narrowed := true }
def NamesNewUptoSaid : Prop := namesNewUptoRow.holds Try.pinned (OpenSpec.upto namesNewSpec)

end Rows
end Go.Proofs.Ytglnhppgoomehaa
