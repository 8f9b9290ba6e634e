/- A part of the proofs about package super: what its functions answer, call by call. -/
import Derived.Test.YtjopjffecnflkaaDoorSa
import Derived.Laws.Bits64b
import Derived.Laws.BitsAllLaws
namespace Go.Proofs.YtjopjffecnflkaaDoor
open Go.RowKit
namespace Su
open Cr
theorem or_64 {x b : Nat} (hx : x < 256 ^ 7) (hb : b < 256) : bits BinOp.or IntKind.u64 ((x : Int) * 256) (b : Int) = ((256 * x + b : Nat) : Int) := by
  rw [show ((x : Int) * 256) = ((256 * x : Nat) : Int) by omega, bits_or_u64_nat _ _ (by omega) (by omega), show 256 * x = 2 ^ 8 * x from rfl, ← Nat.two_pow_add_eq_or_of_lt (i := 8) (by omega)]
theorem or_32 {x b : Nat} (hx : x < 256 ^ 3) (hb : b < 256) : bits BinOp.or IntKind.u32 ((x : Int) * 256) (b : Int) = ((256 * x + b : Nat) : Int) := by
  rw [show ((x : Int) * 256) = ((256 * x : Nat) : Int) by omega, u32_or_nat _ _ (by omega) (by omega), show 256 * x = 2 ^ 8 * x from rfl, ← Nat.two_pow_add_eq_or_of_lt (i := 8) (by omega)]

/-- A byte of a string. -/
def by' (s : ByteArray) (i : Nat) : Nat := (bs s).getD i 0
theorem by_get (s : ByteArray) {i : Nat} (h : i < s.size) : (s[i]'h).toNat = by' s i := by
  rw [by', List.getD_eq_getElem?_getD, bs_get s i h]
  rfl
theorem by_lt (s : ByteArray) (i : Nat) : by' s i < 256 := by
  unfold by'
  rw [List.getD_eq_getElem?_getD]
  cases h : (bs s)[i]? with
  | none => simp
  | some b => exact bs_lt s b (List.mem_of_getElem? h)
theorem num_take (s : ByteArray) {k : Nat} (h : k < s.size) : num ((bs s).take (k + 1)) = 256 * num ((bs s).take k) + by' s k := by
  have hl : k < (bs s).length := by rw [bs_length]; exact h
  rw [List.take_succ_eq_append_getElem hl, num, List.foldl_append, by', List.getD_eq_getElem?_getD, List.getElem?_eq_getElem hl]
  rfl
theorem num_lt_of {l : List Nat} (hl : ∀ b ∈ l, b < 256) (k m : Nat) (h : k ≤ m) : num (l.take k) < 256 ^ m := by
  have := num_lt (l.take k) (fun b hb => hl b (List.mem_of_mem_take hb))
  refine Nat.lt_of_lt_of_le this (Nat.pow_le_pow_right (by omega) ?_)
  simp
  omega

set_option maxHeartbeats 1000000 in
theorem get64_any (s : ByteArray) (h : 8 ≤ s.size) (hs : s.size ≤ 1000) (w : World) :
    Calls Tryd.prog 34 #[.string s] w fun e w' => e = .returned (.int .u64 (num ((bs s).take 8) : Nat)) ∧ w' = w := by
  have hc := size64_any w
  go_enter Tryd.func34, Tryd.ntmps34
  go_wp2_with fail
  refine hc.mono ?_
  clear hc
  rintro e w0 ⟨rfl, hw⟩
  replace hw := hw.symm
  subst hw
  go_wp2
  go_loop [3, 4, 6] (fun n j i => ∃ k : Nat, k ≤ 8 ∧ i = .int .i64 k ∧ n = .int .u64 (num ((bs s).take k) : Nat)) (fun _ _ i => 8 - (intOf i).toNat)
  case atStart => exact ⟨0, Nat.zero_le _, rfl, rfl⟩
  case round =>
    obtain ⟨k, hk, rfl, rfl⟩ := hrel
    by_cases hlt : k < 8
    · have hlen : k < (bs s).length := by rw [bs_length]; omega
      have HN := hide (num_take s (k := k) (by omega))
      have hl := num_lt_of (bs_lt s) k 7 (by omega)
      have hb := by_lt s k
      generalize num ((bs s).take k) = X at *
      have hks : k < s.size := by omega
      have g1 := by_get s (i := k) hks
      generalize by' s k = b at *
      go_wp2
      have ho := or_64 (x := X) (b := b) hl hb
      go_roundw
      case rel => exact ⟨k + 1, by omega, by go_num, by rw [ho, ← HN.out]⟩
      case measure => simp [intOf]; omega
    · obtain rfl : k = 8 := by omega
      go_wp2
      go_ret
      exact ⟨rfl, rfl⟩

set_option maxHeartbeats 1000000 in
theorem get32_any (s : ByteArray) (h : 4 ≤ s.size) (hs : s.size ≤ 1000) (w : World) :
    Calls Tryd.prog 35 #[.string s] w fun e w' => e = .returned (.int .u32 (num ((bs s).take 4) : Nat)) ∧ w' = w := by
  have hc := size32_any w
  go_enter Tryd.func35, Tryd.ntmps35
  go_wp2_with fail
  refine hc.mono ?_
  clear hc
  rintro e w0 ⟨rfl, hw⟩
  replace hw := hw.symm
  subst hw
  go_wp2
  go_loop [3, 4, 6] (fun n j i => ∃ k : Nat, k ≤ 4 ∧ i = .int .i64 k ∧ n = .int .u32 (num ((bs s).take k) : Nat)) (fun _ _ i => 4 - (intOf i).toNat)
  case atStart => exact ⟨0, Nat.zero_le _, rfl, rfl⟩
  case round =>
    obtain ⟨k, hk, rfl, rfl⟩ := hrel
    by_cases hlt : k < 4
    · have hlen : k < (bs s).length := by rw [bs_length]; omega
      have HN := hide (num_take s (k := k) (by omega))
      have hl := num_lt_of (bs_lt s) k 3 (by omega)
      have hb := by_lt s k
      generalize num ((bs s).take k) = X at *
      have hks : k < s.size := by omega
      have g1 := by_get s (i := k) hks
      generalize by' s k = b at *
      go_wp2
      have ho := or_32 (x := X) (b := b) hl hb
      go_roundw
      case rel => exact ⟨k + 1, by omega, by go_num, by rw [ho, ← HN.out]⟩
      case measure => simp [intOf]; omega
    · obtain rfl : k = 4 := by omega
      go_wp2
      go_ret
      exact ⟨rfl, rfl⟩
end Su
end Go.Proofs.YtjopjffecnflkaaDoor
