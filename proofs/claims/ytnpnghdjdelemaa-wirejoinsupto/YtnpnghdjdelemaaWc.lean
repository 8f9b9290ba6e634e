/- A part of the proofs about package wire: what its functions answer, call by call. -/
import Derived.Test.YtnpnghdjdelemaaWa
import Derived.Test.YtnpnghdjdelemaaWl
import Derived.Lib.BitFns
namespace Go.Proofs.Ytnpnghdjdelemaa
open Go.RowKit
namespace Wi

theorem bitLen_ge {x k : Nat} (h : 2 ^ k ≤ x) (hx : x < 18446744073709551616) : k + 1 ≤ Lib.bitLen x := by
  have h1 := Lib.bitLen_shift k x h hx
  have h2 : x / 2 ^ k ≠ 0 := by
    have := Nat.div_pos h (Nat.pow_pos (by omega))
    omega
  have h3 := Lib.bitLen_half (x / 2 ^ k) h2 (Nat.lt_of_le_of_lt (Nat.div_le_self _ _) hx)
  omega
theorem size_bits {x : Nat} (hx : x < 18446744073709551616) : min (max ((Lib.bitLen x + 7 - 1) / 7) 1) 9 = size x := by
  rcases size_cases x hx with ⟨h, h1⟩ | ⟨h, h0, h1⟩ | ⟨h, h0, h1⟩ | ⟨h, h0, h1⟩ | ⟨h, h0, h1⟩ | ⟨h, h0, h1⟩ | ⟨h, h0, h1⟩ | ⟨h, h0, h1⟩ | ⟨h, h0, h1⟩ <;> rw [h]
  · have := Lib.bitLen_le x 7 (by omega) h1; omega
  · have := Lib.bitLen_le x 14 (by omega) h1; have := bitLen_ge (k := 7) h0 hx; omega
  · have := Lib.bitLen_le x 21 (by omega) h1; have := bitLen_ge (k := 14) h0 hx; omega
  · have := Lib.bitLen_le x 28 (by omega) h1; have := bitLen_ge (k := 21) h0 hx; omega
  · have := Lib.bitLen_le x 35 (by omega) h1; have := bitLen_ge (k := 28) h0 hx; omega
  · have := Lib.bitLen_le x 42 (by omega) h1; have := bitLen_ge (k := 35) h0 hx; omega
  · have := Lib.bitLen_le x 49 (by omega) h1; have := bitLen_ge (k := 42) h0 hx; omega
  · have := Lib.bitLen_le x 56 (by omega) h1; have := bitLen_ge (k := 49) h0 hx; omega
  · have := Lib.bitLen_le x 64 (by omega) h1; have := bitLen_ge (k := 56) h0 hx; omega
theorem lead_fin : ∀ b : Fin 256, 9 - Lib.bitLen (255 - b.val) = lenOf b.val := by decide +kernel
theorem lead_len {b : Nat} (h : b < 256) : 9 - Lib.bitLen (255 - b) = lenOf b := lead_fin ⟨b, h⟩
theorem or_fin : ∀ n : Fin 10, ∀ y : Fin 256, y.val < 2 ^ (9 - n.val) → 1 ≤ n.val → bits .or .u8 ((hd n.val : Nat) : Int) ((y.val : Nat) : Int) = ((hd n.val + y.val : Nat) : Int) := by decide +kernel
theorem or_hd {n y : Nat} (h1 : 1 ≤ n) (h9 : n ≤ 9) (hy : y < 2 ^ (9 - n)) : bits .or .u8 ((hd n : Nat) : Int) (y : Int) = ((hd n + y : Nat) : Int) := by
  have : 2 ^ (9 - n) ≤ 2 ^ 8 := Nat.pow_le_pow_right (by omega) (by omega)
  exact or_fin ⟨n, by omega⟩ ⟨y, by omega⟩ hy h1
theorem andNot_fin : ∀ b : Fin 256, bits .andNot .u8 ((b.val : Nat) : Int) ((hd (lenOf b.val) : Nat) : Int) = ((b.val - hd (lenOf b.val) : Nat) : Int) := by decide +kernel
theorem andNot_hd {b : Nat} (h : b < 256) : bits .andNot .u8 (b : Int) ((hd (lenOf b) : Nat) : Int) = ((b - hd (lenOf b) : Nat) : Int) := andNot_fin ⟨b, h⟩
theorem lead_any (b : Nat) (hb : b < 256) (w : World) :
    Calls Try.prog 48 #[.int .u8 (255 - (b : Int))] w fun e w' => e = .returned (.int .i64 ((lenOf b : Nat) - 1)) ∧ w' = w := by
  have hc := len8_any (255 - (b : Int)) w (by omega) (by omega)
  have hl := Lib.bitLen_le8 ⟨255 - b, by omega⟩
  have HE := hide (lead_len hb)
  rw [show (255 - (b : Int)).toNat = 255 - b by omega] at hc
  simp only at hl
  generalize Lib.bitLen (255 - b) = L at *
  go_enter Try.func48, Try.ntmps48
  go_wp2_with fail
  refine hc.mono ?_
  rintro e w' ⟨rfl, rfl⟩
  go_wp2
  go_ret
  exact ⟨ret_int (by have := HE.out; omega), rfl⟩
set_option maxHeartbeats 1000000 in
theorem size_any (x : Nat) (hx : x < 18446744073709551616) (w : World) :
    Calls Try.prog 15 #[.int .u64 (x : Nat)] w fun e w' => e = .returned (.int .i64 (size x : Nat)) ∧ w' = w := by
  have hc := len64_any (x : Int) w (by omega) (by omega)
  have hl := Lib.bitLen_le x 64 (by omega) hx
  have HE := hide (size_bits hx)
  rw [show (x : Int).toNat = x by omega] at hc
  generalize Lib.bitLen x = L at *
  generalize size x = S at *
  go_enter Try.func15, Try.ntmps15
  go_wp2_with fail
  refine hc.mono ?_
  rintro e w' ⟨rfl, rfl⟩
  go_wp2
  all_goals (go_ret; exact ⟨ret_int (by have := HE.out; omega), rfl⟩)
set_option maxHeartbeats 1000000 in
theorem mark_any (n : Nat) (h1 : 1 ≤ n) (h9 : n ≤ 9) (w : World) :
    Calls Try.prog 45 #[.int .i64 (n : Nat)] w fun e w' => e = .returned (.int .u8 (hd n : Nat)) ∧ w' = w := by
  have hsg : IntKind.u8.signed = false := rfl
  have hmx : IntKind.u8.max = 255 := rfl
  rcases (by omega : n = 1 ∨ n = 2 ∨ n = 3 ∨ n = 4 ∨ n = 5 ∨ n = 6 ∨ n = 7 ∨ n = 8 ∨ n = 9) with rfl | rfl | rfl | rfl | rfl | rfl | rfl | rfl | rfl
  all_goals
    go_enter Try.func45, Try.ntmps45
    go_wp2
    go_ret
    exact ⟨rfl, rfl⟩
set_option maxHeartbeats 1000000 in
theorem mayFix_any (n : Int) (hn : -9223372036854775808 ≤ n ∧ n ≤ 9223372036854775807) (w : World) :
    Calls Try.prog 40 #[.int .i64 n] w fun e w' => e = .returned (.bool (decide (1 ≤ n ∧ n ≤ 8))) ∧ w' = w := by
  go_enter Try.func40, Try.ntmps40
  go_wp2
  all_goals (go_ret; exact ⟨ret_bool (by simp; omega), rfl⟩)
/-- A number with bytes more behind it, as far as 64 bits go. -/
def jo (x : Nat) (l : List Nat) : Nat := l.foldl (fun a b => a * 256 % 18446744073709551616 + b) x
theorem jo_snoc (x : Nat) (l : List Nat) (b : Nat) : jo x (l ++ [b]) = jo x l * 256 % 18446744073709551616 + b := by simp [jo]
theorem jo_lt {x : Nat} (hx : x < 18446744073709551616) : ∀ l : List Nat, (∀ b ∈ l, b < 256) → jo x l < 18446744073709551616 := by
  intro l
  induction l generalizing x with
  | nil => intro _; exact hx
  | cons b r ih =>
    intro h
    have hb := h b (by simp)
    exact ih (x := x * 256 % 18446744073709551616 + b) (by omega) fun c hc => h c (by simp [hc])
theorem jo_num {x : Nat} : ∀ l : List Nat, x * 256 ^ l.length + num l < 18446744073709551616 → jo x l = x * 256 ^ l.length + num l := by
  intro l
  induction l generalizing x with
  | nil => intro _; simp [jo, num]
  | cons b r ih =>
    intro h
    rw [num_cons, List.length_cons, Nat.pow_succ] at h ⊢
    have e : x * (256 ^ r.length * 256) + (b * 256 ^ r.length + num r) = (x * 256 + b) * 256 ^ r.length + num r := by
      rw [Nat.add_mul, Nat.mul_assoc, Nat.mul_comm 256]; omega
    rw [e] at h ⊢
    have hp : 0 < 256 ^ r.length := Nat.pow_pos (by omega)
    have h2 : x * 256 + b ≤ (x * 256 + b) * 256 ^ r.length := Nat.le_mul_of_pos_right _ hp
    have h3 : x * 256 % 18446744073709551616 = x * 256 := Nat.mod_eq_of_lt (by omega)
    show jo (x * 256 % 18446744073709551616 + b) r = _
    rw [h3]
    exact ih h
theorem or_byte {x b : Nat} (hb : b < 256) : bits .or .u64 (IntKind.u64.wrap ((x : Int) * 256)) (b : Int) = ((x * 256 % 18446744073709551616 + b : Nat) : Int) := by
  rw [IntKind.wrap_u64, show (x : Int) * 256 % 18446744073709551616 = ((x * 256 % 18446744073709551616 : Nat) : Int) by omega, u64_or_nat _ _ (Nat.mod_lt _ (by omega)) (by omega)]
  congr 1
  rw [show x * 256 % 18446744073709551616 = 2 ^ 8 * (x % 72057594037927936) by omega]
  exact (Nat.two_pow_add_eq_or_of_lt hb _).symm
set_option maxHeartbeats 1000000 in
theorem join_any (x : Nat) (hx : x < 18446744073709551616) (s : ByteArray) (hs : s.size ≤ 9223372036854775807) (w : World) :
    Calls Try.prog 42 #[.int .u64 (x : Nat), .string s] w fun e w' => e = .returned (.int .u64 (jo x (bs s) : Nat)) ∧ w' = w := by
  go_enter Try.func42, Try.ntmps42
  go_wp2
  go_loop [0, 5] (fun r i => ∃ j : Nat, j ≤ s.size ∧ i = .int .i64 j ∧ r = .int .u64 (jo x ((bs s).take j) : Nat)) (fun _ i => s.size - (intOf i).toNat)
  case atStart => exact ⟨0, Nat.zero_le _, rfl, rfl⟩
  case round =>
    obtain ⟨j, hj, rfl, rfl⟩ := hrel
    have HRl := jo_lt hx ((bs s).take j) (fun b hb => bs_lt s b (List.mem_of_mem_take hb))
    by_cases hjl : j < s.size
    · have hbl := bs_lt s (s[j]'hjl).toNat (List.mem_of_getElem? (bs_get s j hjl))
      have HE : Hid (jo x ((bs s).take j) * 256 % 18446744073709551616 + (s[j]'hjl).toNat = jo x ((bs s).take (j + 1))) := by
        show _ = _
        rw [bs_take_succ hjl, jo_snoc]
      have e1 := or_byte (x := jo x ((bs s).take j)) hbl
      generalize jo x ((bs s).take j) = R at *
      go_wp2
      go_round
      case rel => exact ⟨j + 1, by omega, by go_num, by rw [← HE.out]; go_num⟩
      case measure => simp [intOf]; omega
    · have HE : Hid (jo x ((bs s).take j) = jo x (bs s)) := by
        show _ = _
        rw [bs_take_all s hjl]
      generalize jo x ((bs s).take j) = R at *
      go_wp2
      go_ret
      exact ⟨ret_int (by rw [HE.out]), rfl⟩

end Wi
end Go.Proofs.Ytnpnghdjdelemaa
