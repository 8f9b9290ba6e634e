/- A move keeps the numbers of the map of the document small. -/
import Derived.Test.YtjbgojccfkmlnaaMg
namespace Go.Proofs.Ytjbgojccfkmlnaa
open Go.RowKit
namespace Wi

theorem Rf.Ok.moveN {d : Rf} (h : d.Ok) {x : Xt} {q t m : Nat} (hm : m ≤ 65536) (hq : q < 1099511627776) (ht : t < 1099511627776) : (d.moveN x q t m).Ok := fun i => by
  have e2 : (d.moveN x q t m).sq i = if d.hit x m i then q else d.sq i := rfl
  have e3 : (d.moveN x q t m).to i = if d.hit x m i then t + (i - x.at_) else d.to i := rfl
  rw [e2, e3]
  cases hh : d.hit x m i with
  | false => exact h i
  | true =>
    unfold Rf.hit at hh
    rw [Bool.and_eq_true] at hh
    have := of_decide_eq_true hh.1
    rw [if_pos rfl, if_pos rfl]
    exact ⟨hq, by omega⟩

end Wi
end Go.Proofs.Ytjbgojccfkmlnaa
