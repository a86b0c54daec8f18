/-
  THE WALKS OF Read.
-/
import Derived.Test.YtpjfoinkifkdoaaDk8
namespace Go.Proofs.Ytpjfoinkifkdoaa
open Go.RowKit Go.Maps
namespace Dk
open Vt
attribute [local go_sem ↓] slice_hid min_hid max_hid
/-- what Read leaves -/
def Rd (O : Nat → Prop) (w : World) (d : Nat) (S : Ds) (r : Nat) (l : List Nat) (v : Value) (w' : World) : Prop := DK w' d O S ∧ Tr O w w' ∧ (r = 0 → JB w' 0 v l) ∧ (r ≠ 0 → v = .slice none 0 0) ∧ ∀ g, v.ownBlock = some g → w.heap.size ≤ g
end Dk
end Go.Proofs.Ytpjfoinkifkdoaa
