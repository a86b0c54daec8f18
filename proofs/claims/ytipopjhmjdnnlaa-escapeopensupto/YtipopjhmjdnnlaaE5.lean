/-
  THE WALK OF escape.Next: bytes.IndexByte by the library's contract, laid at this program's numbers.
-/
import Derived.Test.YtipopjhmjdnnlaaE4
import Derived.Shelf.Bytes.IndexByte
namespace Go.Proofs.Ytipopjhmjdnnlaa
open Go.RowKit
namespace Vt
end Vt
end Go.Proofs.Ytipopjhmjdnnlaa
