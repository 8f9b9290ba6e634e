/- The law RingAsks, walked. -/
import Derived.Test.YtbgadcofjhgmiaaLe
import Derived.Test.YtbgadcofjhgmiaaLf
namespace Go.Proofs.Ytbgadcofjhgmiaa
open Go.RowKit
namespace Sp

theorem ringAsks_walk (s h t pos n : Int) (W : World) (hs : I64 s) (hh : I64 h) (ht : I64 t) (hp : I64 pos) (hn : I64 n) : Calls Try.prog 3 #[.agg #[.int .i64 s, .int .i64 h, .int .i64 t], .int .i64 pos, .int .i64 n] W fun e w' => e = .returned (.bool true) ∧ Below W.heap.size W w' := by
  cases hm : mayR s h t with
  | false =>
    cases hm1 : mayR s 0 0 with
    | false => exact asks_A0 s h t pos n W hs hh ht hp hn hm hm1
    | true => exact asks_A1 s h t pos n W hs hh ht hp hn hm hm1
  | true =>
    by_cases hA : 0 ≤ pos ∧ pos < 1099511627776 ∧ 0 ≤ n ∧ n ≤ s
    · exact asks_B1 s h t pos n W hs hh ht hp hn hm hA
    · exact asks_B0 s h t pos n W hs hh ht hp hn hm hA

end Sp
end Go.Proofs.Ytbgadcofjhgmiaa
