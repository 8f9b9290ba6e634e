/- A part of the proofs about package span: what its functions answer, call by call. -/
import Derived.Test.YthbgniclplfpgaaProg
import Derived.Test.YthbgniclplfpgaaPa
import Derived.WalkKit
import Derived.WalkSpells
import Derived.WalkLawsBesides
import Derived.Deep.QuietTactic
import Derived.BigQuiet
namespace Go.Proofs.Ythbgniclplfpgaa
open Go.RowKit
namespace Sp

theorem ret_int {k : IntKind} {a b : Int} (h : a = b) : Ending.returned (.int k a) = .returned (.int k b) := by rw [h]
theorem ret_bool {a b : Bool} (h : a = b) : Ending.returned (.bool a) = .returned (.bool b) := by rw [h]

set_option maxHeartbeats 400000 in
theorem may_any (a l : Int) (w : World) (ha : -9223372036854775808 ≤ a ∧ a ≤ 9223372036854775807) (hl : -9223372036854775808 ≤ l ∧ l ≤ 9223372036854775807) :
    Calls Try.prog 13 #[.agg #[.int .i64 a, .int .i64 l]] w fun e w' => e = .returned (.int .i64 (errMay (a, l))) ∧ w' = w.alloc (.cells #[.int .i64 a, .int .i64 l] 27) := by
  by_cases h1 : a < 0
  · go_enter Try.func13, Try.ntmps13
    go_wp2
    go_ret
    exact ⟨ret_int (errMay_no (mayB_no (by simp; omega))).symm, rfl⟩
  · by_cases h2 : l < 1
    · go_enter Try.func13, Try.ntmps13
      go_wp2
      go_ret
      exact ⟨ret_int (errMay_no (mayB_no (by simp; omega))).symm, rfl⟩
    · by_cases h3 : 65536 - l < a
      · go_enter Try.func13, Try.ntmps13
        go_wp2
        go_ret
        exact ⟨ret_int (errMay_no (mayB_no (by simp; omega))).symm, rfl⟩
      · go_enter Try.func13, Try.ntmps13
        go_wp2
        go_ret
        exact ⟨ret_int (errMay_ok (mayB_ok (by simp; omega))).symm, rfl⟩

set_option maxHeartbeats 400000 in
theorem rmay_any (a l : Int) (w : World) (ha : -9223372036854775808 ≤ a ∧ a ≤ 9223372036854775807) (hl : -9223372036854775808 ≤ l ∧ l ≤ 9223372036854775807) :
    Calls Try.prog 14 #[.agg #[.int .i64 a, .int .i64 l]] w fun e w' => e = .returned (.bool (mayB (a, l))) ∧ w' = w.alloc (.cells #[.int .i64 a, .int .i64 l] 27) := by
  by_cases h1 : 0 ≤ a
  · by_cases h2 : a ≤ 65536
    · by_cases h3 : 1 ≤ l
      · by_cases h4 : l ≤ 65536
        · by_cases h5 : a + l ≤ 65536
          · go_enter Try.func14, Try.ntmps14
            go_wp2
            go_ret
            exact ⟨ret_bool (by rw [mayB_ok (by simp; omega)]), rfl⟩
          · go_enter Try.func14, Try.ntmps14
            go_wp2
            go_ret
            exact ⟨ret_bool (by rw [mayB_no (by simp; omega)]), rfl⟩
        · go_enter Try.func14, Try.ntmps14
          go_wp2
          go_ret
          exact ⟨ret_bool (by rw [mayB_no (by simp; omega)]), rfl⟩
      · go_enter Try.func14, Try.ntmps14
        go_wp2
        go_ret
        exact ⟨ret_bool (by rw [mayB_no (by simp; omega)]), rfl⟩
    · go_enter Try.func14, Try.ntmps14
      go_wp2
      go_ret
      exact ⟨ret_bool (by rw [mayB_no (by simp; omega)]), rfl⟩
  · go_enter Try.func14, Try.ntmps14
    go_wp2
    go_ret
    exact ⟨ret_bool (by rw [mayB_no (by simp; omega)]), rfl⟩

set_option maxHeartbeats 400000 in
theorem end_any (a l : Int) (w : World) (h : -9223372036854775808 ≤ a + l ∧ a + l ≤ 9223372036854775807) :
    Calls Try.prog 31 #[.agg #[.int .i64 a, .int .i64 l]] w fun e w' => e = .returned (.int .i64 (a + l)) ∧ w' = w.alloc (.cells #[.int .i64 a, .int .i64 l] 27) := by
  go_enter Try.func31, Try.ntmps31
  go_wp2
  go_ret
  exact ⟨rfl, rfl⟩
end Sp
end Go.Proofs.Ythbgniclplfpgaa
