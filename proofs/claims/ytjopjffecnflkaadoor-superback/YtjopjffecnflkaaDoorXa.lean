/- A part of the proofs about package wire: what its functions answer, call by call. -/
import Derived.Test.YtjopjffecnflkaaDoorXm
import Derived.Test.YtjopjffecnflkaaDoorXm
import Derived.WalkKit
import Derived.WalkSpells
import Derived.WalkLawsBesides
import Derived.Deep.QuietTactic
import Derived.BigQuiet
import Derived.Laws.BitsAllLaws
import Derived.StillTail
namespace Go.Proofs.YtjopjffecnflkaaDoor
open Go.RowKit
namespace Cr

section
variable {P : Program} {ops : Array Oper} {C : World → Prop} {n : Nat}

end

end Cr
end Go.Proofs.YtjopjffecnflkaaDoor
