/- A part of the proofs about package wire: what its functions answer, call by call. -/
import Derived.Test.YtjopjffecnflkaaDoorXd
import Derived.Test.YtjopjffecnflkaaDoorXk
namespace Go.Proofs.YtjopjffecnflkaaDoor
open Go.RowKit
namespace Cr

theorem size_le {x k : Nat} (h1 : 1 ≤ k) (h8 : k ≤ 8) : size x ≤ k ↔ x < 128 ^ k := by
  have hp := size_pos x
  rcases (by omega : k = 1 ∨ k = 2 ∨ k = 3 ∨ k = 4 ∨ k = 5 ∨ k = 6 ∨ k = 7 ∨ k = 8) with rfl | rfl | rfl | rfl | rfl | rfl | rfl | rfl
  all_goals
    simp only [Nat.reducePow]
    unfold size
    constructor
    · intro h
      (repeat' split at h) <;> omega
    · intro h
      (repeat' split) <;> omega
theorem pow128_le {k : Nat} (h : k ≤ 8) : 128 ^ k ≤ 72057594037927936 := Nat.pow_le_pow_right (n := 128) (by omega) h
/-- The bit that is next in a first byte. -/
def un (i : Nat) : Nat := 256 / 2 ^ i
theorem un_next {i : Nat} (h1 : 1 ≤ i) (h8 : i ≤ 8) : hd i + un i = hd (i + 1) ∧ un i / 2 = un (i + 1) ∧ un i ≤ 128 ∧ hd i ≤ 255 := by
  rcases (by omega : i = 1 ∨ i = 2 ∨ i = 3 ∨ i = 4 ∨ i = 5 ∨ i = 6 ∨ i = 7 ∨ i = 8) with rfl | rfl | rfl | rfl | rfl | rfl | rfl | rfl <;> decide
theorem conv_one (b : Nat) (w : World) : (convert 47 9 (.slice (some ⟨w.heap.size, 0, none⟩) 1 1)).run Tryd.prog (w.alloc (.cells #[.int .u8 (b : Nat)] 5)) = .ok (.string (str [b])) (w.alloc (.cells #[.int .u8 (b : Nat)] 5)) :=
  conv_bytes _ _ 0 1 1 [b] rfl fun i x hx => by
    cases i with
    | zero => simp at hx; subst hx; simp
    | succ i => simp at hx
theorem be_succ (x k : Nat) : str [x / 256 ^ k % 256] ++ str (be x k) = str (be x (k + 1)) := by rw [← str_append]; rfl
theorem ofs_one {x : Nat} : ((x : Int) % 256) = ((x % 256 : Nat) : Int) := by omega
set_option maxHeartbeats 1000000 in
theorem rfixed_any (x n : Nat) (hx : x < 18446744073709551616) (hn : n ≤ 8) (w : World) :
    Calls Tryd.prog 24 #[.int .u64 (x : Nat), .int .i64 (n : Nat)] w fun e w' => e = .returned (.string (str (be x n))) ∧ Below w.heap.size w w' := by
  go_enter Tryd.func24, Tryd.ntmps24
  go_wp2
  go_loopw [0, 5, 6] (fun y o i wr => ∃ k : Nat, k ≤ n ∧ i = .int .i64 k ∧ y = .int .u64 (x / 256 ^ k : Nat) ∧ o = .string (str (be x k)) ∧ Below w.heap.size w wr) (fun _ _ i _ => n - (intOf i).toNat)
  case atStart => exact ⟨0, Nat.zero_le _, rfl, by simp, rfl, Below.refl _ _⟩
  case round =>
    obtain ⟨k, hk, rfl, rfl, rfl, hbr⟩ := hrel
    by_cases hlt : k < n
    · have HB := hide (be_succ x k)
      have HD := hide (pow256 x k)
      have hxl : x / 256 ^ k < 18446744073709551616 := Nat.lt_of_le_of_lt (Nat.div_le_self _ _) hx
      have hl : (str (be x k)).size ≤ 8 := by rw [str_size, be_length]; omega
      have hl1 : (str [x / 256 ^ k % 256]).size = 1 := by rw [str_size]; rfl
      have hcv := conv_one (x / 256 ^ k % 256) wr
      generalize x / 256 ^ k = X at *
      generalize str (be x k) = S at *
      rw [show ((X % 256 : Nat) : Int) = (X : Int) % 256 by omega] at hcv
      generalize str [X % 256] = C at *
      go_wp2
      go_roundw
      case rel => exact ⟨k + 1, by omega, by go_num, by rw [← HD.out]; go_num, by rw [← HB.out], hbr.trans ((below_alloc _ _).mono hbr.size)⟩
      case measure => simp [intOf]; omega
    · obtain rfl : k = n := by omega
      go_wp2
      go_ret
      exact ⟨rfl, hbr⟩

end Cr
end Go.Proofs.YtjopjffecnflkaaDoor
