/-
  scan.Next: the first frame from a place on.
-/
import Derived.Test.YtolddolfpnkndaaGreatXubo
namespace Go.Proofs.YtolddolfpnkndaaGreat
open Go.RowKit Go.Shelf
namespace Vt
attribute [local go_sem] Oper.semAt_some
/-- the first frame from a place on: where, and how long; -1, 0: there is none -/
noncomputable def fst (l : List Nat) (z : Int) : Int × Int := match locs (frm l.length z) (l.drop (frm l.length z)) with
  | [] => (-1, 0)
  | x :: _ => ((x.1 : Int), (x.2.1 : Int))
end Vt
end Go.Proofs.YtolddolfpnkndaaGreat
