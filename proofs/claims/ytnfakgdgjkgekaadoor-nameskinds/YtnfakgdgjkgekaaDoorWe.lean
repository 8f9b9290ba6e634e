/- Hexadecimal digits: which bytes are one, and what they count. -/
import Derived.Test.YtnfakgdgjkgekaaDoorWd
import Derived.Test.YtnfakgdgjkgekaaDoorMb
namespace Go.Proofs.YtnfakgdgjkgekaaDoor
open Go.RowKit
namespace Wi


theorem ret_two {k : IntKind} {a b : Int} {v : Value} (h : a = b) : Ending.returned (.tuple #[.int k a, v]) = .returned (.tuple #[.int k b, v]) := by rw [h]
set_option maxHeartbeats 2000000 in
theorem digit_yes (c : Nat) (hc : c < 256) (h : isD c = true) (w : World) : Calls Tryd.prog 42 #[.int .u8 (c : Nat)] w fun e w' => e = .returned (.tuple #[.int .i64 (dg c : Nat), .bool true]) ∧ w' = w := by
  unfold isD at h
  simp only [decide_eq_true_eq] at h
  by_cases h1 : c ≤ 57
  · have h0 : 48 ≤ c := by omega
    rw [show ((dg c : Nat) : Int) = (c : Int) - 48 by unfold dg; rw [if_pos h1]; omega]
    clear h
    go_enter Tryd.func42, Tryd.ntmps42
    go_wp2
    go_ret2
    exact ⟨ret_two (by omega), rfl⟩
  · have h0 : 97 ≤ c := by omega
    have h2 : c ≤ 102 := by omega
    rw [show ((dg c : Nat) : Int) = (c : Int) - 97 + 10 by unfold dg; rw [if_neg h1]; omega]
    have h57 : decide ((c : Int) ≤ 57) = false := by simp; omega
    clear h h1
    go_enter Tryd.func42, Tryd.ntmps42
    go_wp2
    go_ret2
    exact ⟨ret_two (by omega), rfl⟩
set_option maxHeartbeats 2000000 in
theorem digit_no (c : Nat) (hc : c < 256) (h : isD c = false) (w : World) : Calls Tryd.prog 42 #[.int .u8 (c : Nat)] w fun e w' => e = .returned (.tuple #[.int .i64 0, .bool false]) ∧ w' = w := by
  unfold isD at h
  simp only [decide_eq_false_iff_not] at h
  by_cases h1 : 97 ≤ c
  · have h2 : decide ((c : Int) ≤ 57) = false := by simp; omega
    have h3 : decide ((c : Int) ≤ 102) = false := by simp; omega
    clear h
    go_enter Tryd.func42, Tryd.ntmps42
    go_wp2
    go_ret2
    exact ⟨rfl, rfl⟩
  · by_cases h0 : 48 ≤ c
    · have h2 : decide ((c : Int) ≤ 57) = false := by simp; omega
      clear h
      go_enter Tryd.func42, Tryd.ntmps42
      go_wp2
      go_ret2
      exact ⟨rfl, rfl⟩
    · clear h
      go_enter Tryd.func42, Tryd.ntmps42
      go_wp2
      go_ret2
      exact ⟨rfl, rfl⟩

end Wi
end Go.Proofs.YtnfakgdgjkgekaaDoor
