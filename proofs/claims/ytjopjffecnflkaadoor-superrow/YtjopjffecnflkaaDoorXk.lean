/- A part of the proofs about package wire: what its functions answer, call by call. -/
import Derived.Test.YtjopjffecnflkaaDoorXa
import Derived.Laws.AppendOwn
import Derived.Laws.BytesArg
import Derived.Laws.MakeOwn
namespace Go.Proofs.YtjopjffecnflkaaDoor
open Go.RowKit
namespace Cr
end Cr
end Go.Proofs.YtjopjffecnflkaaDoor
