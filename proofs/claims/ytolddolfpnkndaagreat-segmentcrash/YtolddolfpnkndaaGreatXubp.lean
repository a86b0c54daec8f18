/-
  scan.appendJunk: a run of junk behind some extents, unless it is empty.
  scan.Extents: the extents of any bytes.
-/
import Derived.Test.YtolddolfpnkndaaGreatXubo
namespace Go.Proofs.YtolddolfpnkndaaGreat
open Go.RowKit Go.Shelf
namespace Vt
def exv (x : Ex) : List Value := [.bool x.1, .int .i64 x.2.1, .int .i64 x.2.2]
end Vt
end Go.Proofs.YtolddolfpnkndaaGreat
namespace Go.Proofs.YtolddolfpnkndaaGreat
open Go.RowKit Go.Shelf
namespace Vt
attribute [local go_sem] Oper.semAt_some
end Vt
end Go.Proofs.YtolddolfpnkndaaGreat
