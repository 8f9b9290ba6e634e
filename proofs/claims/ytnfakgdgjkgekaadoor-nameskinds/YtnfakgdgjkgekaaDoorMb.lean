/- Hexadecimal digits, names of objects as bytes; no program. -/
import Derived.Test.YtnfakgdgjkgekaaDoorMa
namespace Go.Proofs.YtnfakgdgjkgekaaDoor
namespace Wi

/-- The digit of a number below 16. -/
def hexd (k : Nat) : Nat := if k < 10 then 48 + k else 87 + k
def isD (c : Nat) : Bool := decide ((48 ≤ c ∧ c ≤ 57) ∨ (97 ≤ c ∧ c ≤ 102))
def dg (c : Nat) : Nat := if c ≤ 57 then c - 48 else c - 87
theorem hexd_lt {k : Nat} (h : k < 16) : hexd k < 128 := by unfold hexd; split <;> omega
theorem isD_hexd {k : Nat} (h : k < 16) : isD (hexd k) = true := by
  unfold isD hexd
  rw [decide_eq_true_eq]
  split <;> omega
theorem dg_hexd {k : Nat} (h : k < 16) : dg (hexd k) = k := by
  unfold dg hexd
  split <;> split <;> omega
theorem dg_lt {c : Nat} (h : isD c = true) : dg c < 16 := by
  unfold isD at h
  rw [decide_eq_true_eq] at h
  unfold dg
  split <;> omega
theorem hexd_dg {c : Nat} (h : isD c = true) : hexd (dg c) = c := by
  unfold isD at h
  rw [decide_eq_true_eq] at h
  unfold dg hexd
  split <;> split <;> omega
/-- A number as hexadecimal digits. -/
def hexL (n : Nat) : List Nat := if _h : n < 16 then [hexd n] else hexL (n / 16) ++ [hexd (n % 16)]
termination_by n
decreasing_by omega
theorem hexL_small {n : Nat} (h : n < 16) : hexL n = [hexd n] := by rw [hexL, dif_pos h]
theorem hexL_big {n : Nat} (h : ¬ n < 16) : hexL n = hexL (n / 16) ++ [hexd (n % 16)] := by rw [hexL, dif_neg h]
/-- A number as k digits. -/
def dgs : Nat → Nat → List Nat
  | 0, _ => []
  | k + 1, n => dgs k (n / 16) ++ [hexd (n % 16)]
theorem dgs_length : ∀ k n, (dgs k n).length = k
  | 0, _ => rfl
  | k + 1, n => by rw [dgs, List.length_append, dgs_length k]; rfl
theorem dgs_zero : ∀ k, dgs k 0 = List.replicate k 48
  | 0 => rfl
  | k + 1 => by
    rw [dgs, dgs_zero k, List.replicate_succ']
    rfl
theorem hexL_dgs : ∀ k n, 1 ≤ k → n < 16 ^ k → (hexL n).length ≤ k ∧ List.replicate (k - (hexL n).length) 48 ++ hexL n = dgs k n
  | 0, _, h, _ => by omega
  | k + 1, n, _, hn => by
    by_cases h : n < 16
    · rw [hexL_small h]
      refine ⟨by show 1 ≤ _; omega, ?_⟩
      show List.replicate (k + 1 - 1) 48 ++ [hexd n] = dgs k (n / 16) ++ [hexd (n % 16)]
      rw [show n / 16 = 0 by omega, dgs_zero, show n % 16 = n by omega, Nat.add_sub_cancel]
    · have hk : 1 ≤ k := by
        cases k with
        | zero => simp at hn; omega
        | succ k => omega
      have hd : n / 16 < 16 ^ k := by
        rw [Nat.pow_succ] at hn
        omega
      obtain ⟨h1, h2⟩ := hexL_dgs k (n / 16) hk hd
      rw [hexL_big h]
      refine ⟨by rw [List.length_append]; show _ + 1 ≤ _; omega, ?_⟩
      rw [List.length_append, dgs, ← h2, List.append_assoc]
      show List.replicate (k + 1 - ((hexL (n / 16)).length + 1)) 48 ++ _ = _
      rw [Nat.add_sub_add_right]
theorem hexL_lt (n : Nat) : ∀ b ∈ hexL n, b < 128 := by
  induction n using Nat.strongRecOn with
  | _ n ih =>
    intro b hb
    by_cases h : n < 16
    · rw [hexL_small h] at hb
      rw [List.mem_singleton.1 hb]
      exact hexd_lt h
    · rw [hexL_big h] at hb
      rcases List.mem_append.1 hb with h1 | h1
      · exact ih (n / 16) (by omega) b h1
      · rw [List.mem_singleton.1 h1]
        exact hexd_lt (by omega)
theorem dgs_isD : ∀ k n, ∀ b ∈ dgs k n, isD b = true
  | 0, _, b, hb => by simp [dgs] at hb
  | k + 1, n, b, hb => by
    rw [dgs] at hb
    rcases List.mem_append.1 hb with h1 | h1
    · exact dgs_isD k _ b h1
    · rw [List.mem_singleton.1 h1]
      exact isD_hexd (by omega)
theorem isD_lt {c : Nat} (h : isD c = true) : c < 128 := by
  unfold isD at h
  rw [decide_eq_true_eq] at h
  omega
/-- What digits tell. -/
def numL (l : List Nat) : Nat := l.foldl (fun n c => 16 * n + dg c) 0
theorem numL_snoc (l : List Nat) (c : Nat) : numL (l ++ [c]) = 16 * numL l + dg c := by simp [numL]
theorem numL_dgs : ∀ k n, n < 16 ^ k → numL (dgs k n) = n
  | 0, n, h => by simp at h; simp [dgs, numL, h]
  | k + 1, n, h => by
    rw [dgs, numL_snoc, numL_dgs k (n / 16) (by rw [Nat.pow_succ] at h; omega), dg_hexd (by omega)]
    omega
theorem dgs_numL : ∀ (k : Nat) (l : List Nat), l.length = k → (∀ b ∈ l, isD b = true) → dgs k (numL l) = l ∧ numL l < 16 ^ k := by
  intro k
  induction k with
  | zero =>
    intro l hl _
    have : l = [] := List.eq_nil_of_length_eq_zero hl
    subst this
    exact ⟨rfl, by simp [numL]⟩
  | succ k ih =>
    intro l hl hd
    obtain ⟨m, c, rfl⟩ : ∃ m c, l = m ++ [c] := by
      have hne : l ≠ [] := by intro e; rw [e] at hl; simp at hl
      exact ⟨l.dropLast, l.getLast hne, (List.dropLast_concat_getLast hne).symm⟩
    have hm : m.length = k := by simp at hl; exact hl
    obtain ⟨h1, h2⟩ := ih m hm fun b hb => hd b (by simp [hb])
    have hc := hd c (by simp)
    have := dg_lt hc
    rw [numL_snoc, dgs, show (16 * numL m + dg c) / 16 = numL m by omega, show (16 * numL m + dg c) % 16 = dg c by omega, h1, hexd_dg hc, Nat.pow_succ]
    exact ⟨rfl, by omega⟩
theorem numL_lt {l : List Nat} (hd : ∀ b ∈ l, isD b = true) : numL l < 16 ^ l.length := (dgs_numL l.length l rfl hd).2
/-- A kind's letter. -/
def ltr (k : Nat) : Nat := if k = 1 then 100 else if k = 2 then 99 else if k = 3 then 109 else 101
def kindB (k : Int) : Bool := decide (1 ≤ k ∧ k ≤ 4)
def sl : List Nat := [47]
/-- What names of a volume's objects of a kind begin with. -/
def preL (v : List Nat) (k : Nat) : List Nat := v ++ [47, ltr k, 47]

end Wi
end Go.Proofs.YtnfakgdgjkgekaaDoor
