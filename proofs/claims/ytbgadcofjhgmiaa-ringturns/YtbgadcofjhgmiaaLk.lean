/- The law RingTurns, walked. -/
import Derived.Test.YtbgadcofjhgmiaaLh
import Derived.Test.YtbgadcofjhgmiaaLi
import Derived.Test.YtbgadcofjhgmiaaLj
namespace Go.Proofs.Ytbgadcofjhgmiaa
open Go.RowKit
namespace Sp

theorem ringTurns_walk (s h t n : Int) (W : World) (hs : I64 s) (hh : I64 h) (ht : I64 t) (hn : I64 n) : Calls Try.prog 4 #[.agg #[.int .i64 s, .int .i64 h, .int .i64 t], .int .i64 n] W fun e w' => e = .returned (.bool true) ∧ Below W.heap.size W w' := by
  cases hm : mayR s h t with
  | false => exact turns_A s h t n W hs hh ht hn hm
  | true =>
    by_cases h0 : n < 0
    · exact turns_no_no s h t n W hs hh ht hn hm h0 h0
    · by_cases hQ : n ≤ h - t
      · by_cases h1 : 1099511627776 - h ≤ n
        · exact turns_no_ok s h t n W hs hh ht hn hm (by omega) hQ h1
        · by_cases h2 : n ≤ s - (h - t)
          · exact turns_ok_ok s h t n W hs hh ht hn hm (by omega) hQ (by omega) h2
          · exact turns_full_ok s h t n W hs hh ht hn hm (by omega) hQ (by omega) (by omega)
      · by_cases h1 : 1099511627776 - h ≤ n
        · exact turns_no_range s h t n W hs hh ht hn hm (by omega) (by omega) h1
        · by_cases h2 : n ≤ s - (h - t)
          · exact turns_ok_range s h t n W hs hh ht hn hm (by omega) (by omega) (by omega) h2
          · exact turns_full_range s h t n W hs hh ht hn hm (by omega) (by omega) (by omega) (by omega)

end Sp
end Go.Proofs.Ytbgadcofjhgmiaa
