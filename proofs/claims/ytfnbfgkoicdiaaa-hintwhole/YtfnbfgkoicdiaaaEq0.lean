/-
  A frame, byte by byte.
-/
import Derived.Test.YtfnbfgkoicdiaaaG2
namespace Go.Proofs.Ytfnbfgkoicdiaaa
namespace Vt
theorem en_eq (f : Fr) : en f = 167 :: (dg 3 (wr (bd f)).length ++ (wr (bd f) ++ dg 5 (Crc.go 0 (dg 3 (wr (bd f)).length ++ wr (bd f))))) := by
  unfold en ep; simp
end Vt
end Go.Proofs.Ytfnbfgkoicdiaaa
