/- The sectors of positions in a row: the mathematics. -/
import Derived.Test.YtbgadcofjhgmiaaSp
namespace Go.Proofs.Ytbgadcofjhgmiaa
open Go.RowKit
namespace Sp

/-- The sectors of n positions from p on, in a ring of s sectors: one span, or two. -/
def secL (s p n : Nat) : List (Int × Int) :=
  (if 0 < min n (s - p % s) then [(((p % s : Nat) : Int), ((min n (s - p % s) : Nat) : Int))] else []) ++ (if min n (s - p % s) < n then [((0 : Int), ((n - min n (s - p % s) : Nat) : Int))] else [])
/-- One more position behind spans: as the document's answer has it. -/
def stepS (A : List (Int × Int)) (a : Int) : List (Int × Int) :=
  match A.getLast? with
  | some y => if y.1 + y.2 = a then A.dropLast ++ [(y.1, y.2 + 1)] else A ++ [(a, 1)]
  | none => A ++ [(a, 1)]
def refL (s p : Nat) : Nat → List (Int × Int)
  | 0 => []
  | n + 1 => stepS (refL s p n) (((p + n) % s : Nat) : Int)
theorem mod_up {s p n : Nat} (hs : 1 ≤ s) (h : n < s - p % s) : (p + n) % s = p % s + n := by
  have h1 := Nat.mod_lt p (show 0 < s by omega)
  have h2 := Nat.div_add_mod p s
  rw [show p + n = p % s + n + s * (p / s) by omega, Nat.add_mul_mod_self_left, Nat.mod_eq_of_lt (by omega)]
theorem mod_round {s p n : Nat} (hs : 1 ≤ s) (h : s - p % s ≤ n) (hn : n < s) : (p + n) % s = n - (s - p % s) := by
  have h1 := Nat.mod_lt p (show 0 < s by omega)
  have h2 := Nat.div_add_mod p s
  rw [show p + n = (n - (s - p % s)) + s * (p / s + 1) by rw [Nat.mul_add]; omega, Nat.add_mul_mod_self_left, Nat.mod_eq_of_lt (by omega)]
/-- The document's answer is the spans'. -/
theorem ref_sec {s p : Nat} (hs : 1 ≤ s) : ∀ {n : Nat}, n ≤ s → refL s p n = secL s p n
  | 0, _ => by simp [refL, secL]
  | n + 1, hn => by
    have h1 := Nat.mod_lt p (show 0 < s by omega)
    rw [refL, ref_sec hs (show n ≤ s by omega)]
    by_cases hc : n < s - p % s
    · rw [mod_up hs hc]
      have e1 : min n (s - p % s) = n := by omega
      have e2 : min (n + 1) (s - p % s) = n + 1 := by omega
      unfold secL
      rw [e1, e2, if_neg (show ¬ n < n by omega), if_neg (show ¬ n + 1 < n + 1 by omega), if_pos (show 0 < n + 1 by omega), List.append_nil, List.append_nil]
      by_cases h0 : 0 < n
      · rw [if_pos h0]
        show (if (((p % s : Nat) : Int)) + ((n : Nat) : Int) = ((p % s + n : Nat) : Int) then _ else _) = _
        rw [if_pos (by omega)]
        show [((((p % s : Nat) : Int)), ((n : Nat) : Int) + 1)] = _
        congr 1
      · obtain rfl : n = 0 := by omega
        rw [if_neg h0]
        rfl
    · rw [mod_round hs (show s - p % s ≤ n by omega) (by omega)]
      have e1 : min n (s - p % s) = s - p % s := by omega
      have e2 : min (n + 1) (s - p % s) = s - p % s := by omega
      unfold secL
      rw [e1, e2, if_pos (show 0 < s - p % s by omega), if_pos (show s - p % s < n + 1 by omega)]
      by_cases h2 : s - p % s < n
      · rw [if_pos h2]
        show (if (0 : Int) + ((n - (s - p % s) : Nat) : Int) = ((n - (s - p % s) : Nat) : Int) then _ else _) = _
        rw [if_pos (by omega)]
        show [((((p % s : Nat) : Int)), (((s - p % s : Nat)) : Int)), ((0 : Int), ((n - (s - p % s) : Nat) : Int) + 1)] = _
        simp only [List.cons_append, List.nil_append]
        rw [show ((n - (s - p % s) : Nat) : Int) + 1 = ((n + 1 - (s - p % s) : Nat) : Int) by omega]
      · obtain hx : n = s - p % s := by omega
        rw [if_neg h2, List.append_nil]
        show (if ((((p % s : Nat) : Int))) + (((s - p % s : Nat)) : Int) = ((n - (s - p % s) : Nat) : Int) then _ else _) = _
        rw [if_neg (by omega)]
        simp only [List.cons_append, List.nil_append]
        rw [show ((n - (s - p % s) : Nat) : Int) = 0 by omega, show ((n + 1 - (s - p % s) : Nat) : Int) = 1 by omega]
theorem sec_len (s p n : Nat) : (secL s p n).length ≤ 2 := by
  unfold secL
  rw [List.length_append]
  split <;> split <;> simp
theorem sec_fit {s p n : Nat} (hs : 1 ≤ s) (hs2 : s ≤ 65536) (hn : n ≤ s) : ∀ x ∈ secL s p n, 0 ≤ x.1 ∧ 1 ≤ x.2 ∧ x.1 + x.2 ≤ s := fun x hx => by
  have h1 := Nat.mod_lt p (show 0 < s by omega)
  unfold secL at hx
  rcases List.mem_append.1 hx with h | h
  · split at h
    · simp only [List.mem_singleton] at h
      subst h
      simp only
      omega
    · cases h
  · split at h
    · simp only [List.mem_singleton] at h
      subst h
      simp only
      omega
    · cases h
/-- How many sectors spans have. -/
def sumL : List (Int × Int) → Int
  | [] => 0
  | x :: r => x.2 + sumL r
theorem sum_sec {s p n : Nat} (_hs : 1 ≤ s) (_hn : n ≤ s) : sumL (secL s p n) = n := by
  unfold secL
  by_cases h1 : 0 < min n (s - p % s)
  · rw [if_pos h1]
    by_cases h2 : min n (s - p % s) < n
    · rw [if_pos h2]
      simp only [List.cons_append, List.nil_append, sumL]
      omega
    · rw [if_neg h2]
      simp only [List.append_nil, sumL]
      omega
  · rw [if_neg h1]
    have h1' := Nat.mod_lt p (show 0 < s by omega)
    by_cases h2 : min n (s - p % s) < n
    · rw [if_pos h2]
      simp only [List.nil_append, sumL]
      omega
    · rw [if_neg h2]
      simp only [List.append_nil, sumL]
      omega
theorem sec_turn (s p n : Nat) : secL s (p + s) n = secL s p n := by
  unfold secL
  rw [Nat.add_mod_right]
/-- All positions of a round are all sectors. -/
theorem sec_all {s p : Nat} (hs : 1 ≤ s) {i : Nat} (hi : i < s) : wi (secL s p s) i = true := by
  have h1 := Nat.mod_lt p (show 0 < s by omega)
  have e1 : min s (s - p % s) = s - p % s := by omega
  unfold secL
  rw [e1, if_pos (show 0 < s - p % s by omega)]
  by_cases h2 : s - p % s < s
  · rw [if_pos h2]
    by_cases h3 : p % s ≤ i
    · simp [wi]
      left
      omega
    · simp [wi]
      right
      omega
  · rw [if_neg h2]
    simp [wi]
    omega

end Sp
end Go.Proofs.Ytbgadcofjhgmiaa
