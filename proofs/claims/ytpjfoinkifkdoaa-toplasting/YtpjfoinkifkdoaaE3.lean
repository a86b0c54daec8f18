/-
  THE WALK OF escape.Open: what 'plain' and 'badB' say; the plain bytes lie in a row of the call's own.
-/
import Derived.Test.YtpjfoinkifkdoaaE2
namespace Go.Proofs.Ytpjfoinkifkdoaa
open Go.RowKit
namespace Vt
/-- what Open gives -/
def opn (l : List Nat) : List Nat := if (badB 0 l).1 = 0 then plain l else []
def OpenPost (w : World) (l : List Nat) (e : Ending) (w' : World) : Prop := ∃ u, e = .returned (.tuple #[u, .int .i64 ((badB 0 l).1 : Int), .int .i64 ((badB 0 l).2 : Int)]) ∧ JB w' w.heap.size u (opn l) ∧ Below w.heap.size w w'
end Vt
end Go.Proofs.Ytpjfoinkifkdoaa
