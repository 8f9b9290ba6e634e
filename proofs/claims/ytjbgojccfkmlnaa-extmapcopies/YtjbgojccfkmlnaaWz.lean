/- Move, where an argument may not be: ErrArg, and nothing is moved. -/
import Derived.Test.YtjbgojccfkmlnaaWt
import Derived.Test.YtjbgojccfkmlnaaWv
namespace Go.Proofs.Ytjbgojccfkmlnaa
open Go.RowKit
namespace Wi

set_option maxHeartbeats 8000000 in
set_option maxRecDepth 100000 in
theorem move_no {w : World} {b : Nat} (xa xn xq xt sq st : Int) (ha : I64 xa) (hn : I64 xn) (hno : mayX xa xn xq xt = false ∨ mayP sq st = false) :
    Calls Try.prog 32 #[.pointer (some ⟨b, 0, none⟩), .agg #[.int .i64 xa, .int .i64 xn, .int .i64 xq, .int .i64 xt], .agg #[.int .i64 sq, .int .i64 st]] w fun e w' => e = .returned (.tuple #[.int .i64 0, .int .i64 1]) ∧ Below w.heap.size w w' := by
  have hb1 := below_alloc w (.cells #[.int .i64 xa, .int .i64 xn, .int .i64 xq, .int .i64 xt] 40)
  have HB := hide (hb1.alloc hb1.size (.cells #[.int .i64 sq, .int .i64 st] 32))
  have hc := may_any xa xn xq xt ha hn ((w.alloc (.cells #[.int .i64 xa, .int .i64 xn, .int .i64 xq, .int .i64 xt] 40)).alloc (.cells #[.int .i64 sq, .int .i64 st] 32))
  have HN := hide hno
  unfold vX at hc
  clear hb1 hno
  go_enter Try.func32, Try.ntmps32
  cases hm : mayX xa xn xq xt with
  | false =>
    rw [hm, show erB false = 1 from rfl] at hc
    clear hm
    go_wp2_with fail
    refine hc.mono ?_
    rintro e w2 ⟨rfl, hb2⟩
    have HB2 := hide (HB.out.trans (hb2.mono HB.out.size))
    clear hc hb2
    go_wp2
    go_ret2
    exact ⟨rfl, HB2.out⟩
  | true =>
    have hp : mayP sq st = false := by
      rcases HN.out with h | h
      · rw [hm] at h
        cases h
      · exact h
    rw [hm, show erB true = 0 from rfl] at hc
    clear hm
    go_wp2_with fail
    refine hc.mono ?_
    rintro e w2 ⟨rfl, hb2⟩
    have hc2 := spotmay_any sq st w2
    rw [hp, show erB false = 1 from rfl] at hc2
    have HB2 := hide (HB.out.trans (hb2.mono HB.out.size))
    have HC : Hid (w2.cell? ⟨w.heap.size + 1, 0, none⟩ = some (.int .i64 sq) ∧ w2.cell? ⟨w.heap.size + 1, 1, none⟩ = some (.int .i64 st)) := by
      have hh : ((w.alloc (.cells #[.int .i64 xa, .int .i64 xn, .int .i64 xq, .int .i64 xt] 40)).alloc (.cells #[.int .i64 sq, .int .i64 st] 32)).heap[w.heap.size + 1]? = some (.cells #[.int .i64 sq, .int .i64 st] 32 (0, 0)) := by
        have := heap_alloc_new (w.alloc (.cells #[.int .i64 xa, .int .i64 xn, .int .i64 xq, .int .i64 xt] 40)) (.cells #[.int .i64 sq, .int .i64 st] 32)
        rwa [show (w.alloc (.cells #[.int .i64 xa, .int .i64 xn, .int .i64 xq, .int .i64 xt] 40)).heap.size = w.heap.size + 1 by simp] at this
      have hl := lt_of_block hh
      refine ⟨(hb2.cell (p := ⟨w.heap.size + 1, 0, none⟩) hl).trans ?_, (hb2.cell (p := ⟨w.heap.size + 1, 1, none⟩) hl).trans ?_⟩ <;> (rw [cell_of_row _ _ _ _ _ _ hh]; rfl)
    obtain ⟨c0, c1⟩ := HC.out
    clear hc hb2 hp HN
    go_wp2_with fail
    refine hc2.mono ?_
    rintro e w3 ⟨rfl, hb3⟩
    have HB3 := hide (HB2.out.trans (hb3.mono HB2.out.size))
    clear hc2 hb3 c0 c1 HC
    go_wp2
    go_ret2
    exact ⟨rfl, HB3.out⟩

end Wi
end Go.Proofs.Ytjbgojccfkmlnaa
