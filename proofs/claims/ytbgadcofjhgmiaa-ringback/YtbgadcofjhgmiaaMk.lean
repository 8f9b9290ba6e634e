/- The sectors that are taken, as they lie: the mathematics. -/
import Derived.Test.YtbgadcofjhgmiaaMa
namespace Go.Proofs.Ytbgadcofjhgmiaa
open Go.RowKit
namespace Sp

/-- The sectors of positions in a row, as they lie in memory. -/
def tkV (s t m : Nat) : List Value := (List.range m).map fun i => .int .i64 (((t + i) % s : Nat) : Int)
theorem tkV_len (s t m : Nat) : (tkV s t m).length = m := by simp [tkV]
theorem tkV_get {s t m i : Nat} (h : i < m) : (tkV s t m)[i]? = some (.int .i64 (((t + i) % s : Nat) : Int)) := by
  simp [tkV, h]
theorem tkV_snoc (s t m : Nat) : tkV s t m ++ [.int .i64 (((t + m) % s : Nat) : Int)] = tkV s t (m + 1) := by
  simp [tkV, List.range_succ]
theorem tkV_tail (s t m : Nat) : (tkV s t (m + 1)).drop (1 * 1) = tkV s (t + 1) m := by
  rw [tkV, List.range_succ_eq_map]
  simp only [List.map_cons, List.map_map, Nat.mul_one, List.drop_succ_cons, List.drop_zero, tkV]
  refine List.map_congr_left fun i _ => ?_
  simp only [Function.comp]
  rw [show t + (i + 1) = t + 1 + i by omega]
theorem mod_ne {s t i m : Nat} (h : i < m) (hm : m < s) : ¬ (((t + i) % s : Nat) : Int) = (((t + m) % s : Nat) : Int) := fun e => by
  have h1 : (t + m) % s = (t + i) % s := by omega
  have h2 := Nat.sub_mod_eq_zero_of_mod_eq h1
  rw [show t + m - (t + i) = m - i by omega, Nat.mod_eq_of_lt (by omega)] at h2
  omega
/-- How many sectors the first k spans have. -/
def cN (l : List (Int × Int)) (k : Nat) : Nat := (sumL (l.take k)).toNat
theorem cN_zero (l : List (Int × Int)) : cN l 0 = 0 := by simp [cN, sumL]
theorem cN_all {s p n k : Nat} (hs : 1 ≤ s) (hn : n ≤ s) (hk : (secL s p n).length ≤ k) : cN (secL s p n) k = n := by
  rw [cN, List.take_of_length_le hk, sum_sec hs hn]
  omega
theorem sec_posn {s p n k : Nat} {x : Int × Int} (hs : 1 ≤ s) (hn : n ≤ s) (h : (secL s p n)[k]? = some x) :
    ∃ A L : Nat, x = ((A : Int), (L : Int)) ∧ 1 ≤ L ∧ A + L ≤ s ∧ cN (secL s p n) k + L ≤ n ∧ cN (secL s p n) (k + 1) = cN (secL s p n) k + L ∧ ∀ j : Nat, j < L → A + j = (p + cN (secL s p n) k + j) % s := by
  have hm := Nat.mod_lt p (show 0 < s by omega)
  have hup : ∀ j, j < s - p % s → (p + j) % s = p % s + j := fun j hj => mod_up hs hj
  have hro : ∀ j, s - p % s ≤ j → j < s → (p + j) % s = j - (s - p % s) := fun j h1 h2 => mod_round hs h1 h2
  unfold secL at h
  by_cases h1 : 0 < min n (s - p % s)
  · by_cases h2 : min n (s - p % s) < n
    · have hl : secL s p n = [(((p % s : Nat) : Int), ((min n (s - p % s) : Nat) : Int)), (0, ((n - min n (s - p % s) : Nat) : Int))] := by
        unfold secL; rw [if_pos h1, if_pos h2]; rfl
      rw [if_pos h1, if_pos h2] at h
      rw [hl]
      rcases k with _ | _ | k
      · simp only [List.cons_append, List.nil_append, List.getElem?_cons_zero, Option.some.injEq] at h
        refine ⟨p % s, min n (s - p % s), h.symm, by omega, by omega, ?_, ?_, fun j hj => ?_⟩
        · simp [cN, sumL]; omega
        · simp [cN, sumL]
        · simp only [cN_zero]; rw [Nat.add_zero]; rw [hup j (by omega)]
      · simp only [List.cons_append, List.nil_append, List.getElem?_cons_succ, List.getElem?_cons_zero, Option.some.injEq] at h
        have e1 : cN [(((p % s : Nat) : Int), ((min n (s - p % s) : Nat) : Int)), (0, ((n - min n (s - p % s) : Nat) : Int))] (0 + 1) = min n (s - p % s) := by simp [cN, sumL]
        rw [e1]
        refine ⟨0, n - min n (s - p % s), h.symm, by omega, by omega, by omega, ?_, fun j hj => ?_⟩
        · simp [cN, sumL]; omega
        · rw [Nat.add_assoc, hro _ (by omega) (by omega)]; omega
      · simp at h
    · have hl : secL s p n = [(((p % s : Nat) : Int), ((min n (s - p % s) : Nat) : Int))] := by
        unfold secL; rw [if_pos h1, if_neg h2]; rfl
      rw [if_pos h1, if_neg h2] at h
      rw [hl]
      rcases k with _ | k
      · simp only [List.cons_append, List.nil_append, List.getElem?_cons_zero, Option.some.injEq] at h
        refine ⟨p % s, min n (s - p % s), h.symm, by omega, by omega, ?_, ?_, fun j hj => ?_⟩
        · simp [cN, sumL]; omega
        · simp [cN, sumL]
        · simp only [cN_zero]; rw [Nat.add_zero]; rw [hup j (by omega)]
      · simp at h
  · have h2 : ¬ min n (s - p % s) < n := by omega
    rw [if_neg h1, if_neg h2] at h
    simp at h

end Sp
end Go.Proofs.Ytbgadcofjhgmiaa
