/- A part of the proofs about package crc: what its functions answer, call by call. -/
import Derived.Test.YtjopjffecnflkaaDoorWc
import Derived.Test.YtjopjffecnflkaaDoorMc
namespace Go.Proofs.YtjopjffecnflkaaDoor
open Go.RowKit
namespace Cr

set_option maxHeartbeats 1000000 in
theorem sum_any (a : Option Addr) (n cap : Nat) (xs : List ByteArray) (w : World) (T : Tab w) (h : Ss w a n xs) :
    Calls Tryd.prog 38 #[.slice a n cap] w fun e w' => e = .returned (.int .u32 (more 0 (jn xs) : Nat)) ∧ w' = w := by
  have hm := more_any 0 (by omega) a n cap xs w T h
  go_enter Tryd.func38, Tryd.ntmps38
  go_wp2_with fail
  refine hm.mono ?_
  rintro e w' ⟨rfl, rfl⟩
  go_wp2
  go_ret
  exact ⟨rfl, rfl⟩
end Cr
end Go.Proofs.YtjopjffecnflkaaDoor
