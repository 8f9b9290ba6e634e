/- A part of the proofs about package wire: what its functions answer, call by call. -/
import Derived.Test.YtjopjffecnflkaaDoorXa
import Derived.Lib.BitFns
namespace Go.Proofs.YtjopjffecnflkaaDoor
open Go.RowKit
namespace Cr

theorem bitLen_ge {x k : Nat} (h : 2 ^ k ≤ x) (hx : x < 18446744073709551616) : k + 1 ≤ Lib.bitLen x := by
  have h1 := Lib.bitLen_shift k x h hx
  have h2 : x / 2 ^ k ≠ 0 := by
    have := Nat.div_pos h (Nat.pow_pos (by omega))
    omega
  have h3 := Lib.bitLen_half (x / 2 ^ k) h2 (Nat.lt_of_le_of_lt (Nat.div_le_self _ _) hx)
  omega
theorem size_bits {x : Nat} (hx : x < 18446744073709551616) : min (max ((Lib.bitLen x + 7 - 1) / 7) 1) 9 = size x := by
  rcases size_cases x hx with ⟨h, h1⟩ | ⟨h, h0, h1⟩ | ⟨h, h0, h1⟩ | ⟨h, h0, h1⟩ | ⟨h, h0, h1⟩ | ⟨h, h0, h1⟩ | ⟨h, h0, h1⟩ | ⟨h, h0, h1⟩ | ⟨h, h0, h1⟩ <;> rw [h]
  · have := Lib.bitLen_le x 7 (by omega) h1; omega
  · have := Lib.bitLen_le x 14 (by omega) h1; have := bitLen_ge (k := 7) h0 hx; omega
  · have := Lib.bitLen_le x 21 (by omega) h1; have := bitLen_ge (k := 14) h0 hx; omega
  · have := Lib.bitLen_le x 28 (by omega) h1; have := bitLen_ge (k := 21) h0 hx; omega
  · have := Lib.bitLen_le x 35 (by omega) h1; have := bitLen_ge (k := 28) h0 hx; omega
  · have := Lib.bitLen_le x 42 (by omega) h1; have := bitLen_ge (k := 35) h0 hx; omega
  · have := Lib.bitLen_le x 49 (by omega) h1; have := bitLen_ge (k := 42) h0 hx; omega
  · have := Lib.bitLen_le x 56 (by omega) h1; have := bitLen_ge (k := 49) h0 hx; omega
  · have := Lib.bitLen_le x 64 (by omega) h1; have := bitLen_ge (k := 56) h0 hx; omega
theorem lead_fin : ∀ b : Fin 256, 9 - Lib.bitLen (255 - b.val) = lenOf b.val := by decide +kernel
theorem lead_len {b : Nat} (h : b < 256) : 9 - Lib.bitLen (255 - b) = lenOf b := lead_fin ⟨b, h⟩
theorem or_fin : ∀ n : Fin 10, ∀ y : Fin 256, y.val < 2 ^ (9 - n.val) → 1 ≤ n.val → bits .or .u8 ((hd n.val : Nat) : Int) ((y.val : Nat) : Int) = ((hd n.val + y.val : Nat) : Int) := by decide +kernel
theorem or_hd {n y : Nat} (h1 : 1 ≤ n) (h9 : n ≤ 9) (hy : y < 2 ^ (9 - n)) : bits .or .u8 ((hd n : Nat) : Int) (y : Int) = ((hd n + y : Nat) : Int) := by
  have : 2 ^ (9 - n) ≤ 2 ^ 8 := Nat.pow_le_pow_right (by omega) (by omega)
  exact or_fin ⟨n, by omega⟩ ⟨y, by omega⟩ hy h1
theorem andNot_fin : ∀ b : Fin 256, bits .andNot .u8 ((b.val : Nat) : Int) ((hd (lenOf b.val) : Nat) : Int) = ((b.val - hd (lenOf b.val) : Nat) : Int) := by decide +kernel
theorem andNot_hd {b : Nat} (h : b < 256) : bits .andNot .u8 (b : Int) ((hd (lenOf b) : Nat) : Int) = ((b - hd (lenOf b) : Nat) : Int) := andNot_fin ⟨b, h⟩
/-- A number with bytes more behind it, as far as 64 bits go. -/
def jo (x : Nat) (l : List Nat) : Nat := l.foldl (fun a b => a * 256 % 18446744073709551616 + b) x
theorem jo_snoc (x : Nat) (l : List Nat) (b : Nat) : jo x (l ++ [b]) = jo x l * 256 % 18446744073709551616 + b := by simp [jo]
theorem jo_lt {x : Nat} (hx : x < 18446744073709551616) : ∀ l : List Nat, (∀ b ∈ l, b < 256) → jo x l < 18446744073709551616 := by
  intro l
  induction l generalizing x with
  | nil => intro _; exact hx
  | cons b r ih =>
    intro h
    have hb := h b (by simp)
    exact ih (x := x * 256 % 18446744073709551616 + b) (by omega) fun c hc => h c (by simp [hc])
theorem jo_num {x : Nat} : ∀ l : List Nat, x * 256 ^ l.length + num l < 18446744073709551616 → jo x l = x * 256 ^ l.length + num l := by
  intro l
  induction l generalizing x with
  | nil => intro _; simp [jo, num]
  | cons b r ih =>
    intro h
    rw [num_cons, List.length_cons, Nat.pow_succ] at h ⊢
    have e : x * (256 ^ r.length * 256) + (b * 256 ^ r.length + num r) = (x * 256 + b) * 256 ^ r.length + num r := by
      rw [Nat.add_mul, Nat.mul_assoc, Nat.mul_comm 256]; omega
    rw [e] at h ⊢
    have hp : 0 < 256 ^ r.length := Nat.pow_pos (by omega)
    have h2 : x * 256 + b ≤ (x * 256 + b) * 256 ^ r.length := Nat.le_mul_of_pos_right _ hp
    have h3 : x * 256 % 18446744073709551616 = x * 256 := Nat.mod_eq_of_lt (by omega)
    show jo (x * 256 % 18446744073709551616 + b) r = _
    rw [h3]
    exact ih h
theorem or_byte {x b : Nat} (hb : b < 256) : bits .or .u64 (IntKind.u64.wrap ((x : Int) * 256)) (b : Int) = ((x * 256 % 18446744073709551616 + b : Nat) : Int) := by
  rw [IntKind.wrap_u64, show (x : Int) * 256 % 18446744073709551616 = ((x * 256 % 18446744073709551616 : Nat) : Int) by omega, u64_or_nat _ _ (Nat.mod_lt _ (by omega)) (by omega)]
  congr 1
  rw [show x * 256 % 18446744073709551616 = 2 ^ 8 * (x % 72057594037927936) by omega]
  exact (Nat.two_pow_add_eq_or_of_lt hb _).symm
end Cr
end Go.Proofs.YtjopjffecnflkaaDoor
