/- A part of the proofs about package wire: what its functions answer, call by call. -/
import Derived.Test.YtnpnghdjdelemaaWd
import Derived.Test.YtnpnghdjdelemaaWk
namespace Go.Proofs.Ytnpnghdjdelemaa
open Go.RowKit
namespace Wi

theorem size_le {x k : Nat} (h1 : 1 ≤ k) (h8 : k ≤ 8) : size x ≤ k ↔ x < 128 ^ k := by
  have hp := size_pos x
  rcases (by omega : k = 1 ∨ k = 2 ∨ k = 3 ∨ k = 4 ∨ k = 5 ∨ k = 6 ∨ k = 7 ∨ k = 8) with rfl | rfl | rfl | rfl | rfl | rfl | rfl | rfl
  all_goals
    simp only [Nat.reducePow]
    unfold size
    constructor
    · intro h
      (repeat' split at h) <;> omega
    · intro h
      (repeat' split) <;> omega
theorem pow128_le {k : Nat} (h : k ≤ 8) : 128 ^ k ≤ 72057594037927936 := Nat.pow_le_pow_right (n := 128) (by omega) h
set_option maxHeartbeats 1000000 in
theorem rsize_any (x : Nat) (_hx : x < 18446744073709551616) (w : World) :
    Calls Try.prog 16 #[.int .u64 (x : Nat)] w fun e w' => e = .returned (.int .i64 (size x : Nat)) ∧ w' = w := by
  have hsp := size_pos x
  go_enter Try.func16, Try.ntmps16
  go_wp2
  go_loop [3, 4] (fun n m => ∃ k : Nat, 1 ≤ k ∧ k ≤ 9 ∧ k ≤ size x ∧ n = .int .i64 k ∧ m = .int .u64 (128 ^ min k 8 : Nat)) (fun n _ => 9 - (intOf n).toNat)
  case atStart => exact ⟨1, by omega, by omega, hsp.1, rfl, rfl⟩
  case round =>
    obtain ⟨k, h1, h9, hk, rfl, rfl⟩ := hrel
    by_cases hlt : k < 9
    · have hM := pow128_le (k := min k 8) (by omega)
      have HI : Hid (size x ≤ k ↔ x < 128 ^ min k 8) := by
        show _ ↔ _
        rw [show min k 8 = k by omega]
        exact size_le h1 (by omega)
      have HN : Hid (k < 8 → 128 * 128 ^ min k 8 = 128 ^ min (k + 1) 8) := by
        intro h
        rw [show min k 8 = k by omega, show min (k + 1) 8 = k + 1 by omega, Nat.pow_succ, Nat.mul_comm]
      have HN8 : Hid (k = 8 → 128 ^ min k 8 = 128 ^ min (k + 1) 8) := by
        intro h
        subst h
        rfl
      generalize 128 ^ min k 8 = M at *
      by_cases hx2 : x < M
      · have HS : Hid (size x = k) := by
          have := HI.out.2 hx2
          show _ = _
          omega
        go_wp2
        go_ret
        exact ⟨ret_int (by rw [HS.out]), rfl⟩
      · have HS : Hid (¬ size x ≤ k) := fun h => hx2 (HI.out.1 h)
        by_cases h8 : k < 8
        · have HM := HN.out h8
          have HM2 := hide HM
          clear HM
          go_wp2
          go_round
          case rel => exact ⟨k + 1, by omega, by omega, by have := HS.out; omega, by go_num, by rw [← HM2.out]; go_num⟩
          case measure => simp [intOf]; omega
        · have HM2 := hide (HN8.out (by omega))
          go_wp2
          go_round
          case rel => exact ⟨k + 1, by omega, by omega, by have := HS.out; omega, by go_num, by rw [← HM2.out]⟩
          case measure => simp [intOf]; omega
    · have HS : Hid (size x = k) := by show _ = _; omega
      generalize 128 ^ min k 8 = M at *
      go_wp2
      go_ret
      exact ⟨ret_int (by rw [HS.out]), rfl⟩
/-- The bit that is next in a first byte. -/
def un (i : Nat) : Nat := 256 / 2 ^ i
theorem un_next {i : Nat} (h1 : 1 ≤ i) (h8 : i ≤ 8) : hd i + un i = hd (i + 1) ∧ un i / 2 = un (i + 1) ∧ un i ≤ 128 ∧ hd i ≤ 255 := by
  rcases (by omega : i = 1 ∨ i = 2 ∨ i = 3 ∨ i = 4 ∨ i = 5 ∨ i = 6 ∨ i = 7 ∨ i = 8) with rfl | rfl | rfl | rfl | rfl | rfl | rfl | rfl <;> decide
set_option maxHeartbeats 1000000 in
theorem head_any (n : Nat) (h1 : 1 ≤ n) (h9 : n ≤ 9) (w : World) :
    Calls Try.prog 47 #[.int .i64 (n : Nat)] w fun e w' => e = .returned (.int .i64 (hd n : Nat)) ∧ w' = w := by
  go_enter Try.func47, Try.ntmps47
  go_wp2
  go_loop [3, 4, 5] (fun b u i => ∃ k : Nat, 1 ≤ k ∧ k ≤ n ∧ i = .int .i64 k ∧ b = .int .i64 (hd k : Nat) ∧ u = .int .i64 (un k : Nat)) (fun _ _ i => 9 - (intOf i).toNat)
  case atStart => exact ⟨1, by omega, h1, rfl, rfl, rfl⟩
  case round =>
    obtain ⟨k, hk1, hkn, rfl, rfl, rfl⟩ := hrel
    by_cases hlt : k < n
    · obtain ⟨e1, e2, e3, e4⟩ := un_next hk1 (show k ≤ 8 by omega)
      have E1 := hide e1
      have E2 := hide e2
      clear e1 e2
      generalize hd k = H at *
      generalize un k = U at *
      go_wp2
      go_round
      case rel => exact ⟨k + 1, by omega, by omega, by go_num, by rw [← E1.out]; go_num, by rw [← E2.out]; go_num⟩
      case measure => simp [intOf]; omega
    · obtain rfl : k = n := by omega
      generalize un k = U at *
      go_wp2
      go_ret
      exact ⟨rfl, rfl⟩
theorem conv_one (b : Nat) (w : World) : (convert 25 9 (.slice (some ⟨w.heap.size, 0, none⟩) 1 1)).run Try.prog (w.alloc (.cells #[.int .u8 (b : Nat)] 5)) = .ok (.string (str [b])) (w.alloc (.cells #[.int .u8 (b : Nat)] 5)) :=
  conv_bytes _ _ 0 1 1 [b] rfl fun i x hx => by
    cases i with
    | zero => simp at hx; subst hx; simp
    | succ i => simp at hx
theorem be_succ (x k : Nat) : str [x / 256 ^ k % 256] ++ str (be x k) = str (be x (k + 1)) := by rw [← str_append]; rfl
theorem pow256 (x j : Nat) : x / 256 ^ j / 256 = x / 256 ^ (j + 1) := by rw [Nat.div_div_eq_div_mul, ← Nat.pow_succ]
theorem ofs_one {x : Nat} : ((x : Int) % 256) = ((x % 256 : Nat) : Int) := by omega
set_option maxHeartbeats 1000000 in
theorem rfixed_any (x n : Nat) (hx : x < 18446744073709551616) (hn : n ≤ 8) (w : World) :
    Calls Try.prog 32 #[.int .u64 (x : Nat), .int .i64 (n : Nat)] w fun e w' => e = .returned (.string (str (be x n))) ∧ Below w.heap.size w w' := by
  go_enter Try.func32, Try.ntmps32
  go_wp2
  go_loopw [0, 5, 6] (fun y o i wr => ∃ k : Nat, k ≤ n ∧ i = .int .i64 k ∧ y = .int .u64 (x / 256 ^ k : Nat) ∧ o = .string (str (be x k)) ∧ Below w.heap.size w wr) (fun _ _ i _ => n - (intOf i).toNat)
  case atStart => exact ⟨0, Nat.zero_le _, rfl, by simp, rfl, Below.refl _ _⟩
  case round =>
    obtain ⟨k, hk, rfl, rfl, rfl, hbr⟩ := hrel
    by_cases hlt : k < n
    · have HB := hide (be_succ x k)
      have HD := hide (pow256 x k)
      have hxl : x / 256 ^ k < 18446744073709551616 := Nat.lt_of_le_of_lt (Nat.div_le_self _ _) hx
      have hl : (str (be x k)).size ≤ 8 := by rw [str_size, be_length]; omega
      have hl1 : (str [x / 256 ^ k % 256]).size = 1 := by rw [str_size]; rfl
      have hcv := conv_one (x / 256 ^ k % 256) wr
      generalize x / 256 ^ k = X at *
      generalize str (be x k) = S at *
      rw [show ((X % 256 : Nat) : Int) = (X : Int) % 256 by omega] at hcv
      generalize str [X % 256] = C at *
      go_wp2
      go_roundw
      case rel => exact ⟨k + 1, by omega, by go_num, by rw [← HD.out]; go_num, by rw [← HB.out], hbr.trans ((below_alloc _ _).mono hbr.size)⟩
      case measure => simp [intOf]; omega
    · obtain rfl : k = n := by omega
      go_wp2
      go_ret
      exact ⟨rfl, hbr⟩

end Wi
end Go.Proofs.Ytnpnghdjdelemaa
