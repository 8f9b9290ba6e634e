/- Package wire, call by call (writing) -/
import Derived.Test.YtnpbgjafahhadaaDoorQw
import Derived.Test.YtnpbgjafahhadaaDoorQm
import Derived.Laws.Strings
import Derived.Laws.BitsAllLaws
import Derived.WalkKit
import Derived.WalkSpells
import Derived.WalkLawsBesides
import Derived.Deep.QuietTactic
import Derived.BigQuiet
import Derived.StillTail
import Derived.Laws.AppendOwn
import Derived.Laws.BytesArg
import Derived.Laws.MakeOwn
import Derived.Test.YtnpbgjafahhadaaDoorXl
import Derived.Lib.BitFns
import Derived.OwnWalk
namespace Go.Proofs.YtnpbgjafahhadaaDoor
namespace Cr

/-- The n lowest bytes of a number, the high one first. -/
def be (x : Nat) : Nat → List Nat
  | 0 => []
  | n + 1 => x / 256 ^ n % 256 :: be x n
/-- Bytes as a number, the high one first. -/
def num (l : List Nat) : Nat := l.foldl (fun a b => 256 * a + b) 0
theorem be_length (x : Nat) : ∀ n, (be x n).length = n
  | 0 => rfl
  | n + 1 => by simp [be, be_length x n]
theorem be_lt (x : Nat) : ∀ n, ∀ b ∈ be x n, b < 256
  | 0, b, h => by simp [be] at h
  | n + 1, b, h => by
    simp only [be, List.mem_cons] at h
    rcases h with h | h
    · rw [h]; exact Nat.mod_lt _ (by omega)
    · exact be_lt x n b h
theorem num_from (a : Nat) : ∀ l : List Nat, l.foldl (fun a b => 256 * a + b) a = a * 256 ^ l.length + num l
  | [] => by simp [num]
  | b :: r => by
    have h1 := num_from (256 * a + b) r
    have h2 := num_from (256 * 0 + b) r
    simp only [num, List.foldl_cons] at *
    rw [h1, h2, List.length_cons, Nat.pow_succ, Nat.add_mul, Nat.mul_zero, Nat.zero_add, Nat.add_assoc, Nat.mul_comm 256 a, Nat.mul_assoc, Nat.mul_comm 256]
theorem num_cons (b : Nat) (r : List Nat) : num (b :: r) = b * 256 ^ r.length + num r := by
  have := num_from (256 * 0 + b) r
  rw [Nat.mul_zero, Nat.zero_add] at this
  simpa [num] using this
theorem num_lt : ∀ l : List Nat, (∀ b ∈ l, b < 256) → num l < 256 ^ l.length
  | [], _ => by simp [num]
  | b :: r, h => by
    have h1 := num_lt r fun c hc => h c (by simp [hc])
    have h2 := h b (by simp)
    rw [num_cons, List.length_cons, Nat.pow_succ]
    have : b * 256 ^ r.length ≤ 255 * 256 ^ r.length := Nat.mul_le_mul_right _ (by omega)
    omega
theorem num_be (x : Nat) : ∀ n, num (be x n) = x % 256 ^ n
  | 0 => by simp [be, num, Nat.mod_one]
  | n + 1 => by
    rw [be, num_cons, num_be x n, be_length, Nat.pow_succ, Nat.mod_mul]
    rw [Nat.mul_comm, Nat.add_comm]
theorem be_mod (x : Nat) : ∀ n, be (x % 256 ^ n) n = be x n
  | 0 => rfl
  | n + 1 => by
    have h1 : ∀ m, m ≤ n → be (x % 256 ^ (n + 1)) m = be x m := by
      intro m
      induction m with
      | zero => intro _; rfl
      | succ m ih =>
        intro hm
        rw [be, be, ih (by omega)]
        congr 1
        rw [show n + 1 = (m + 1) + (n - m) by omega, Nat.pow_add, Nat.mod_mul, Nat.add_comm, Nat.pow_succ]
        rw [show 256 ^ m * 256 * (x / (256 ^ m * 256) % 256 ^ (n - m)) + x % (256 ^ m * 256) = 256 ^ m * (256 * (x / (256 ^ m * 256) % 256 ^ (n - m))) + x % (256 ^ m * 256) by rw [Nat.mul_assoc]]
        rw [Nat.mul_add_div (Nat.pow_pos (by omega)), Nat.mul_add_mod, Nat.mod_mul_right_div_self]
        omega
    rw [be, be, h1 n (Nat.le_refl _)]
    congr 1
    rw [Nat.pow_succ, Nat.mod_mul_right_div_self]
    omega
theorem be_num : ∀ l : List Nat, (∀ b ∈ l, b < 256) → be (num l) l.length = l
  | [], _ => rfl
  | b :: r, h => by
    have hb := h b (by simp)
    have hr := fun c hc => h c (List.mem_cons_of_mem b hc)
    have h1 := num_lt r hr
    have ih := be_num r hr
    have hp : 0 < 256 ^ r.length := Nat.pow_pos (by omega)
    rw [List.length_cons, be, num_cons]
    have e1 : (b * 256 ^ r.length + num r) / 256 ^ r.length = b := by
      rw [Nat.mul_comm, Nat.mul_add_div hp, Nat.div_eq_of_lt h1, Nat.add_zero]
    have e2 : be (b * 256 ^ r.length + num r) r.length = r := by
      rw [← be_mod, Nat.mul_comm, Nat.mul_add_mod, Nat.mod_eq_of_lt h1, ih]
    rw [e1, e2, Nat.mod_eq_of_lt hb]
/-- How many bytes a number needs. -/
def size (x : Nat) : Nat :=
  if x < 128 then 1 else if x < 16384 then 2 else if x < 2097152 then 3 else if x < 268435456 then 4 else if x < 34359738368 then 5 else if x < 4398046511104 then 6
  else if x < 562949953421312 then 7 else if x < 72057594037927936 then 8 else 9
/-- The first byte's bits that tell that there are n bytes. -/
def hd (n : Nat) : Nat := 256 - 2 ^ (9 - n)
/-- How many bytes a first byte tells. -/
def lenOf (b : Nat) : Nat :=
  if b < 128 then 1 else if b < 192 then 2 else if b < 224 then 3 else if b < 240 then 4 else if b < 248 then 5 else if b < 252 then 6 else if b < 254 then 7 else if b < 255 then 8 else 9
/-- A number in few bytes. -/
def vr (x : Nat) : List Nat := (hd (size x) + x / 256 ^ (size x - 1)) :: be x (size x - 1)
theorem size_pos (x : Nat) : 1 ≤ size x ∧ size x ≤ 9 := by
  unfold size
  repeat' split
  all_goals omega
theorem vr_length (x : Nat) : (vr x).length = size x := by
  have := size_pos x
  rw [vr, List.length_cons, be_length]
  omega
/-- What a size says of a number, and of its first byte. -/
theorem size_cases (x : Nat) (hx : x < 18446744073709551616) :
    (size x = 1 ∧ x < 128) ∨ (size x = 2 ∧ 128 ≤ x ∧ x < 16384) ∨ (size x = 3 ∧ 16384 ≤ x ∧ x < 2097152) ∨ (size x = 4 ∧ 2097152 ≤ x ∧ x < 268435456) ∨ (size x = 5 ∧ 268435456 ≤ x ∧ x < 34359738368) ∨
    (size x = 6 ∧ 34359738368 ≤ x ∧ x < 4398046511104) ∨ (size x = 7 ∧ 4398046511104 ≤ x ∧ x < 562949953421312) ∨ (size x = 8 ∧ 562949953421312 ≤ x ∧ x < 72057594037927936) ∨ (size x = 9 ∧ 72057594037927936 ≤ x ∧ x < 18446744073709551616) := by
  unfold size
  repeat' split
  all_goals omega
theorem lenOf_is {b : Nat} : (b < 128 → lenOf b = 1) ∧ (128 ≤ b → b < 192 → lenOf b = 2) ∧ (192 ≤ b → b < 224 → lenOf b = 3) ∧ (224 ≤ b → b < 240 → lenOf b = 4) ∧ (240 ≤ b → b < 248 → lenOf b = 5) ∧ (248 ≤ b → b < 252 → lenOf b = 6) ∧ (252 ≤ b → b < 254 → lenOf b = 7) ∧ (b = 254 → lenOf b = 8) ∧ (255 ≤ b → lenOf b = 9) := by
  unfold lenOf
  refine ⟨fun h => ?_, fun h h' => ?_, fun h h' => ?_, fun h h' => ?_, fun h h' => ?_, fun h h' => ?_, fun h h' => ?_, fun h => ?_, fun h => ?_⟩
  all_goals (repeat' split)
  all_goals omega
theorem lenOf_vr (x : Nat) (hx : x < 18446744073709551616) : lenOf (hd (size x) + x / 256 ^ (size x - 1)) = size x ∧ hd (size x) + x / 256 ^ (size x - 1) < 256 := by
  obtain ⟨l1, l2, l3, l4, l5, l6, l7, l8, l9⟩ := @lenOf_is (hd (size x) + x / 256 ^ (size x - 1))
  rcases size_cases x hx with ⟨h, h1⟩ | ⟨h, h0, h1⟩ | ⟨h, h0, h1⟩ | ⟨h, h0, h1⟩ | ⟨h, h0, h1⟩ | ⟨h, h0, h1⟩ | ⟨h, h0, h1⟩ | ⟨h, h0, h1⟩ | ⟨h, h0, h1⟩ <;> rw [h] at l1 l2 l3 l4 l5 l6 l7 l8 l9 ⊢ <;> simp only [hd, Nat.reduceSub, Nat.reducePow] at l1 l2 l3 l4 l5 l6 l7 l8 l9 ⊢
  · exact ⟨l1 (by omega), by omega⟩
  · exact ⟨l2 (by omega) (by omega), by omega⟩
  · exact ⟨l3 (by omega) (by omega), by omega⟩
  · exact ⟨l4 (by omega) (by omega), by omega⟩
  · exact ⟨l5 (by omega) (by omega), by omega⟩
  · exact ⟨l6 (by omega) (by omega), by omega⟩
  · exact ⟨l7 (by omega) (by omega), by omega⟩
  · exact ⟨l8 (by omega), by omega⟩
  · exact ⟨l9 (by omega), by omega⟩
theorem vr_lt (x : Nat) (hx : x < 18446744073709551616) : ∀ b ∈ vr x, b < 256 := by
  intro b hb
  rw [vr, List.mem_cons] at hb
  rcases hb with hb | hb
  · rw [hb]; exact (lenOf_vr x hx).2
  · exact be_lt _ _ b hb
/-- The number in few bytes at the beginning: it, how many bytes it has, what is wrong (10: too short, F: another form). -/
def few (F : Int) : List Nat → Nat × Nat × Int
  | [] => (0, 0, 10)
  | b :: r => if r.length + 1 < lenOf b then (0, 0, 10) else if size ((b - hd (lenOf b)) * 256 ^ (lenOf b - 1) + num (r.take (lenOf b - 1))) ≠ lenOf b then (0, 0, F)
    else ((b - hd (lenOf b)) * 256 ^ (lenOf b - 1) + num (r.take (lenOf b - 1)), lenOf b, 0)
/-- What was written is read. -/
theorem few_vr (F : Int) (x : Nat) (hx : x < 18446744073709551616) (r : List Nat) : few F (vr x ++ r) = (x, size x, 0) := by
  obtain ⟨h1, _⟩ := lenOf_vr x hx
  have hp := size_pos x
  rw [vr, List.cons_append, few, h1]
  have hl : (be x (size x - 1)).length = size x - 1 := be_length _ _
  rw [if_neg (by rw [List.length_append, hl]; omega), List.take_append_of_le_length (by omega), List.take_of_length_le (by omega), num_be, Nat.add_sub_cancel_left]
  have e : x / 256 ^ (size x - 1) * 256 ^ (size x - 1) + x % 256 ^ (size x - 1) = x := by rw [Nat.mul_comm]; exact Nat.div_add_mod x _
  rw [e, if_neg (by simp)]
/-- Of a beginning that is not all of it bytes are missing. -/
theorem few_cut (F : Int) (x : Nat) (hx : x < 18446744073709551616) (k : Nat) (hk : k < size x) : few F ((vr x).take k) = (0, 0, 10) := by
  obtain ⟨h1, _⟩ := lenOf_vr x hx
  cases k with
  | zero => rfl
  | succ k =>
    rw [vr, List.take_succ_cons, few, h1, if_pos]
    rw [List.length_take, be_length]
    omega
theorem lenOf_cases (b : Nat) (hb : b < 256) : (lenOf b = 1 ∧ b < 128) ∨ (lenOf b = 2 ∧ 128 ≤ b ∧ b < 192) ∨ (lenOf b = 3 ∧ 192 ≤ b ∧ b < 224) ∨ (lenOf b = 4 ∧ 224 ≤ b ∧ b < 240) ∨ (lenOf b = 5 ∧ 240 ≤ b ∧ b < 248) ∨ (lenOf b = 6 ∧ 248 ≤ b ∧ b < 252) ∨ (lenOf b = 7 ∧ 252 ≤ b ∧ b < 254) ∨ (lenOf b = 8 ∧ b = 254) ∨ (lenOf b = 9 ∧ b = 255) := by
  unfold lenOf
  repeat' split
  all_goals omega
theorem lenOf_pos (b : Nat) : 1 ≤ lenOf b ∧ lenOf b ≤ 9 := by
  unfold lenOf
  repeat' split
  all_goals omega
theorem hd_le (b : Nat) (hb : b < 256) : hd (lenOf b) ≤ b := by
  rcases lenOf_cases b hb with ⟨h, h1⟩ | ⟨h, h0, h1⟩ | ⟨h, h0, h1⟩ | ⟨h, h0, h1⟩ | ⟨h, h0, h1⟩ | ⟨h, h0, h1⟩ | ⟨h, h0, h1⟩ | ⟨h, h1⟩ | ⟨h, h1⟩ <;> rw [h] <;> simp only [hd, Nat.reduceSub, Nat.reducePow] <;> omega
/-- What is read is written as the same bytes. -/
theorem vr_few (F : Int) {l : List Nat} (hl : ∀ b ∈ l, b < 256) {x n : Nat} (h : few F l = (x, n, 0)) (hF : F ≠ 0) : vr x = l.take n ∧ n ≤ l.length ∧ n = size x := by
  cases l with
  | nil => simp [few] at h
  | cons b r =>
    rw [few] at h
    split at h
    · simp at h
    · rename_i hlen
      split at h
      · simp at h; exact absurd h.2.2 hF
      · rename_i hsz
        simp only [ne_eq, Decidable.not_not] at hsz
        simp only [Prod.mk.injEq, and_true] at h
        obtain ⟨hx, hn⟩ := h
        have hb := hl b (by simp)
        have hp := lenOf_pos b
        rw [hx] at hsz
        have hlt : (r.take (lenOf b - 1)).length = lenOf b - 1 := by rw [List.length_take]; omega
        have hnl := num_lt (r.take (lenOf b - 1)) fun c hc => hl c (List.mem_cons_of_mem _ (List.mem_of_mem_take hc))
        rw [hlt] at hnl
        have hpw : 0 < 256 ^ (lenOf b - 1) := Nat.pow_pos (by omega)
        have e1 : x / 256 ^ (lenOf b - 1) = b - hd (lenOf b) := by
          rw [← hx, Nat.mul_comm, Nat.mul_add_div hpw, Nat.div_eq_of_lt hnl, Nat.add_zero]
        have e2 : be x (lenOf b - 1) = r.take (lenOf b - 1) := by
          rw [← be_mod, ← hx, Nat.mul_comm, Nat.mul_add_mod, Nat.mod_eq_of_lt hnl]
          have := be_num (r.take (lenOf b - 1)) fun c hc => hl c (List.mem_cons_of_mem _ (List.mem_of_mem_take hc))
          rwa [hlt] at this
        have hh := hd_le b hb
        refine ⟨?_, ?_, ?_⟩
        · rw [vr, hsz, e1, e2, ← hn, show hd (lenOf b) + (b - hd (lenOf b)) = b by omega]
          rw [show lenOf b = (lenOf b - 1) + 1 by omega, List.take_succ_cons]
          rfl
        · rw [← hn, List.length_cons]; omega
        · rw [← hn, hsz]
theorem few_lt (F : Int) {l : List Nat} (hl : ∀ b ∈ l, b < 256) {x n : Nat} {e : Int} (h : few F l = (x, n, e)) : x < 18446744073709551616 := by
  cases l with
  | nil => simp [few] at h; omega
  | cons b r =>
    rw [few] at h
    split at h
    · simp at h; omega
    · split at h
      · simp at h; omega
      · simp only [Prod.mk.injEq] at h
        obtain ⟨hx, _, _⟩ := h
        have hb := hl b (by simp)
        have hnl := num_lt (r.take (lenOf b - 1)) fun c hc => hl c (List.mem_cons_of_mem _ (List.mem_of_mem_take hc))
        have hle : (r.take (lenOf b - 1)).length ≤ lenOf b - 1 := by rw [List.length_take]; omega
        have hn2 : num (r.take (lenOf b - 1)) < 256 ^ (lenOf b - 1) := Nat.lt_of_lt_of_le hnl (Nat.pow_le_pow_right (by omega) hle)
        rw [← hx]
        generalize num (r.take (lenOf b - 1)) = m at *
        rcases lenOf_cases b hb with ⟨h, h1⟩ | ⟨h, h0, h1⟩ | ⟨h, h0, h1⟩ | ⟨h, h0, h1⟩ | ⟨h, h0, h1⟩ | ⟨h, h0, h1⟩ | ⟨h, h0, h1⟩ | ⟨h, h1⟩ | ⟨h, h1⟩ <;> rw [h] at hn2 ⊢ <;> simp only [hd, Nat.reduceSub, Nat.reducePow] at hn2 ⊢ <;> omega
/-- The order of bytes, one by one. -/
def lexB : List Nat → List Nat → Bool
  | _, [] => false
  | [], _ :: _ => true
  | a :: r, b :: t => if a < b then true else if b < a then false else lexB r t
theorem lexB_be (x y : Nat) : ∀ n, lexB (be x n) (be y n) = decide (x % 256 ^ n < y % 256 ^ n)
  | 0 => by simp [be, lexB, Nat.mod_one]
  | n + 1 => by
    rw [be, be, lexB, lexB_be x y n]
    have ex : x % 256 ^ (n + 1) = x % 256 ^ n + 256 ^ n * (x / 256 ^ n % 256) := by rw [Nat.pow_succ, Nat.mod_mul]
    have ey : y % 256 ^ (n + 1) = y % 256 ^ n + 256 ^ n * (y / 256 ^ n % 256) := by rw [Nat.pow_succ, Nat.mod_mul]
    have hp : 0 < 256 ^ n := Nat.pow_pos (by omega)
    have hx := Nat.mod_lt x hp
    have hy := Nat.mod_lt y hp
    rw [ex, ey]
    generalize x % 256 ^ n = p at *
    generalize y % 256 ^ n = q at *
    generalize x / 256 ^ n % 256 = a at *
    generalize y / 256 ^ n % 256 = b at *
    generalize 256 ^ n = P at *
    by_cases h1 : a < b
    · rw [if_pos h1]
      have : P * (a + 1) ≤ P * b := Nat.mul_le_mul_left _ h1
      rw [Nat.mul_add, Nat.mul_one] at this
      exact (decide_eq_true (by omega)).symm
    · rw [if_neg h1]
      by_cases h2 : b < a
      · rw [if_pos h2]
        have : P * (b + 1) ≤ P * a := Nat.mul_le_mul_left _ h2
        rw [Nat.mul_add, Nat.mul_one] at this
        exact (decide_eq_false (by omega)).symm
      · have : a = b := by omega
        subst this
        rw [if_neg h2]
        exact decide_eq_decide.2 (by omega)
def chain : List Nat → Nat → Nat → Nat
  | [], k, _ => k
  | t :: r, k, x => if x < t then k else chain r (k + 1) x
theorem chain_ge : ∀ (ts : List Nat) (k x : Nat), k ≤ chain ts k x
  | [], _, _ => Nat.le_refl _
  | t :: r, k, x => by
    have := chain_ge r (k + 1) x
    unfold chain
    split <;> omega
theorem chain_mono {x y : Nat} (h : x ≤ y) : ∀ (ts : List Nat) (k : Nat), chain ts k x ≤ chain ts k y
  | [], _ => Nat.le_refl _
  | t :: r, k => by
    have h1 := chain_mono h r (k + 1)
    have h2 := chain_ge (t :: r) k y
    rw [chain]
    split
    · exact h2
    · rw [chain, if_neg (by omega)]
      exact h1
theorem size_mono {x y : Nat} (h : x ≤ y) : size x ≤ size y := chain_mono h [128, 16384, 2097152, 268435456, 34359738368, 4398046511104, 562949953421312, 72057594037927936] 1
theorem lenOf_mono {x y : Nat} (h : x ≤ y) : lenOf x ≤ lenOf y := chain_mono h [128, 192, 224, 240, 248, 252, 254, 255] 1
theorem lexB_vr {x y : Nat} (hx : x < 18446744073709551616) (hy : y < 18446744073709551616) : lexB (vr x) (vr y) = decide (x < y) := by
  have lx := (lenOf_vr x hx).1
  have ly := (lenOf_vr y hy).1
  rcases Nat.lt_trichotomy (size x) (size y) with h | h | h
  · have hxy : x < y := Nat.lt_of_not_le fun h2 => by have := size_mono h2; omega
    have hb : hd (size x) + x / 256 ^ (size x - 1) < hd (size y) + y / 256 ^ (size y - 1) := Nat.lt_of_not_le fun h2 => by have := lenOf_mono h2; omega
    rw [vr, vr, lexB, if_pos hb, decide_eq_true hxy]
  · rw [vr, vr, lexB, h, lexB_be]
    have dx := Nat.div_add_mod x (256 ^ (size y - 1))
    have dy := Nat.div_add_mod y (256 ^ (size y - 1))
    have hp : 0 < 256 ^ (size y - 1) := Nat.pow_pos (by omega)
    have mx := Nat.mod_lt x hp
    have my := Nat.mod_lt y hp
    generalize x / 256 ^ (size y - 1) = a at *
    generalize y / 256 ^ (size y - 1) = b at *
    generalize x % 256 ^ (size y - 1) = p at *
    generalize y % 256 ^ (size y - 1) = q at *
    generalize 256 ^ (size y - 1) = P at *
    by_cases h1 : a < b
    · rw [if_pos (by omega)]
      have : P * (a + 1) ≤ P * b := Nat.mul_le_mul_left _ h1
      rw [Nat.mul_add, Nat.mul_one] at this
      exact (decide_eq_true (by omega)).symm
    · rw [if_neg (by omega)]
      by_cases h2 : b < a
      · rw [if_pos (by omega)]
        have : P * (b + 1) ≤ P * a := Nat.mul_le_mul_left _ h2
        rw [Nat.mul_add, Nat.mul_one] at this
        exact (decide_eq_false (by omega)).symm
      · have : a = b := by omega
        subst this
        rw [if_neg (by omega)]
        exact decide_eq_decide.2 (by omega)
  · have hxy : y < x := Nat.lt_of_not_le fun h2 => by have := size_mono h2; omega
    have hb : hd (size y) + y / 256 ^ (size y - 1) < hd (size x) + x / 256 ^ (size x - 1) := Nat.lt_of_not_le fun h2 => by have := lenOf_mono h2; omega
    rw [vr, vr, lexB, if_neg (by omega), if_pos hb, decide_eq_false (by omega)]
theorem vr_inj {x y : Nat} (hx : x < 18446744073709551616) (hy : y < 18446744073709551616) (h : vr x = vr y) : x = y := by
  have h1 := few_vr 12 x hx []
  have h2 := few_vr 12 y hy []
  rw [h, h2] at h1
  simp only [Prod.mk.injEq] at h1
  exact h1.1.symm

theorem bytesLess_lex : ∀ l m : List UInt8, Op.bytesLess l m = lexB (l.map UInt8.toNat) (m.map UInt8.toNat)
  | l, [] => by cases l <;> rfl
  | [], _ :: _ => rfl
  | a :: x, b :: y => by
    have ih := bytesLess_lex x y
    rw [Op.bytesLess, List.map_cons, List.map_cons, lexB, ih]
    by_cases h1 : a.toNat < b.toNat
    · have : a < b := UInt8.lt_iff_toNat_lt.2 h1
      simp [h1, this]
    · have h1' : ¬ a < b := fun h => h1 (UInt8.lt_iff_toNat_lt.1 h)
      by_cases h2 : b.toNat < a.toNat
      · have : ¬ a = b := fun e => by rw [e] at h2; omega
        simp [h1, h1', h2, this]
      · have : a = b := UInt8.toNat_inj.1 (by omega)
        subst this
        simp
theorem bytesLess_bs (s t : ByteArray) : Op.bytesLess s.toList t.toList = lexB (bs s) (bs t) := by
  rw [ByteArray.toList_eq, ByteArray.toList_eq]
  exact bytesLess_lex _ _

end Cr
end Go.Proofs.YtnpbgjafahhadaaDoor

namespace Go.Proofs.YtnpbgjafahhadaaDoor
open Go.RowKit
namespace Cr

section
variable {P : Program} {ops : Array Oper} {C : World → Prop} {n : Nat}

end

end Cr
end Go.Proofs.YtnpbgjafahhadaaDoor

namespace Go.Proofs.YtnpbgjafahhadaaDoor
open Go.RowKit
namespace Cr
end Cr
end Go.Proofs.YtnpbgjafahhadaaDoor

namespace Go.Proofs.YtnpbgjafahhadaaDoor
open Go.RowKit
namespace Cr

theorem bitLen_ge {x k : Nat} (h : 2 ^ k ≤ x) (hx : x < 18446744073709551616) : k + 1 ≤ Lib.bitLen x := by
  have h1 := Lib.bitLen_shift k x h hx
  have h2 : x / 2 ^ k ≠ 0 := by
    have := Nat.div_pos h (Nat.pow_pos (by omega))
    omega
  have h3 := Lib.bitLen_half (x / 2 ^ k) h2 (Nat.lt_of_le_of_lt (Nat.div_le_self _ _) hx)
  omega
theorem size_bits {x : Nat} (hx : x < 18446744073709551616) : min (max ((Lib.bitLen x + 7 - 1) / 7) 1) 9 = size x := by
  rcases size_cases x hx with ⟨h, h1⟩ | ⟨h, h0, h1⟩ | ⟨h, h0, h1⟩ | ⟨h, h0, h1⟩ | ⟨h, h0, h1⟩ | ⟨h, h0, h1⟩ | ⟨h, h0, h1⟩ | ⟨h, h0, h1⟩ | ⟨h, h0, h1⟩ <;> rw [h]
  · have := Lib.bitLen_le x 7 (by omega) h1; omega
  · have := Lib.bitLen_le x 14 (by omega) h1; have := bitLen_ge (k := 7) h0 hx; omega
  · have := Lib.bitLen_le x 21 (by omega) h1; have := bitLen_ge (k := 14) h0 hx; omega
  · have := Lib.bitLen_le x 28 (by omega) h1; have := bitLen_ge (k := 21) h0 hx; omega
  · have := Lib.bitLen_le x 35 (by omega) h1; have := bitLen_ge (k := 28) h0 hx; omega
  · have := Lib.bitLen_le x 42 (by omega) h1; have := bitLen_ge (k := 35) h0 hx; omega
  · have := Lib.bitLen_le x 49 (by omega) h1; have := bitLen_ge (k := 42) h0 hx; omega
  · have := Lib.bitLen_le x 56 (by omega) h1; have := bitLen_ge (k := 49) h0 hx; omega
  · have := Lib.bitLen_le x 64 (by omega) h1; have := bitLen_ge (k := 56) h0 hx; omega
theorem lead_fin : ∀ b : Fin 256, 9 - Lib.bitLen (255 - b.val) = lenOf b.val := by decide +kernel
theorem lead_len {b : Nat} (h : b < 256) : 9 - Lib.bitLen (255 - b) = lenOf b := lead_fin ⟨b, h⟩
theorem or_fin : ∀ n : Fin 10, ∀ y : Fin 256, y.val < 2 ^ (9 - n.val) → 1 ≤ n.val → bits .or .u8 ((hd n.val : Nat) : Int) ((y.val : Nat) : Int) = ((hd n.val + y.val : Nat) : Int) := by decide +kernel
theorem or_hd {n y : Nat} (h1 : 1 ≤ n) (h9 : n ≤ 9) (hy : y < 2 ^ (9 - n)) : bits .or .u8 ((hd n : Nat) : Int) (y : Int) = ((hd n + y : Nat) : Int) := by
  have : 2 ^ (9 - n) ≤ 2 ^ 8 := Nat.pow_le_pow_right (by omega) (by omega)
  exact or_fin ⟨n, by omega⟩ ⟨y, by omega⟩ hy h1
theorem andNot_fin : ∀ b : Fin 256, bits .andNot .u8 ((b.val : Nat) : Int) ((hd (lenOf b.val) : Nat) : Int) = ((b.val - hd (lenOf b.val) : Nat) : Int) := by decide +kernel
theorem andNot_hd {b : Nat} (h : b < 256) : bits .andNot .u8 (b : Int) ((hd (lenOf b) : Nat) : Int) = ((b - hd (lenOf b) : Nat) : Int) := andNot_fin ⟨b, h⟩
theorem lead_any (b : Nat) (hb : b < 256) (w : World) :
    Calls Tryd.prog 101 #[.int .u8 (255 - (b : Int))] w fun e w' => e = .returned (.int .i64 ((lenOf b : Nat) - 1)) ∧ w' = w := by
  have hc := len8_any (255 - (b : Int)) w (by omega) (by omega)
  have hl := Lib.bitLen_le8 ⟨255 - b, by omega⟩
  have HE := hide (lead_len hb)
  rw [show (255 - (b : Int)).toNat = 255 - b by omega] at hc
  simp only at hl
  generalize Lib.bitLen (255 - b) = L at *
  go_enter Tryd.func101, Tryd.ntmps101
  go_wp2_with fail
  refine hc.mono ?_
  rintro e w' ⟨rfl, rfl⟩
  go_wp2
  go_ret
  exact ⟨ret_int (by have := HE.out; omega), rfl⟩
set_option maxHeartbeats 1000000 in
theorem size_any (x : Nat) (hx : x < 18446744073709551616) (w : World) :
    Calls Tryd.prog 68 #[.int .u64 (x : Nat)] w fun e w' => e = .returned (.int .i64 (size x : Nat)) ∧ w' = w := by
  have hc := len64_any (x : Int) w (by omega) (by omega)
  have hl := Lib.bitLen_le x 64 (by omega) hx
  have HE := hide (size_bits hx)
  rw [show (x : Int).toNat = x by omega] at hc
  generalize Lib.bitLen x = L at *
  generalize size x = S at *
  go_enter Tryd.func68, Tryd.ntmps68
  go_wp2_with fail
  refine hc.mono ?_
  rintro e w' ⟨rfl, rfl⟩
  go_wp2
  all_goals (go_ret; exact ⟨ret_int (by have := HE.out; omega), rfl⟩)
set_option maxHeartbeats 1000000 in
theorem mark_any (n : Nat) (h1 : 1 ≤ n) (h9 : n ≤ 9) (w : World) :
    Calls Tryd.prog 69 #[.int .i64 (n : Nat)] w fun e w' => e = .returned (.int .u8 (hd n : Nat)) ∧ w' = w := by
  have hsg : IntKind.u8.signed = false := rfl
  have hmx : IntKind.u8.max = 255 := rfl
  rcases (by omega : n = 1 ∨ n = 2 ∨ n = 3 ∨ n = 4 ∨ n = 5 ∨ n = 6 ∨ n = 7 ∨ n = 8 ∨ n = 9) with rfl | rfl | rfl | rfl | rfl | rfl | rfl | rfl | rfl
  all_goals
    go_enter Tryd.func69, Tryd.ntmps69
    go_wp2
    go_ret
    exact ⟨rfl, rfl⟩
set_option maxHeartbeats 1000000 in
theorem mayFix_any (n : Int) (hn : -9223372036854775808 ≤ n ∧ n ≤ 9223372036854775807) (w : World) :
    Calls Tryd.prog 71 #[.int .i64 n] w fun e w' => e = .returned (.bool (decide (1 ≤ n ∧ n ≤ 8))) ∧ w' = w := by
  go_enter Tryd.func71, Tryd.ntmps71
  go_wp2
  all_goals (go_ret; exact ⟨ret_bool (by simp; omega), rfl⟩)
/-- A number with bytes more behind it, as far as 64 bits go. -/
def jo (x : Nat) (l : List Nat) : Nat := l.foldl (fun a b => a * 256 % 18446744073709551616 + b) x
theorem jo_snoc (x : Nat) (l : List Nat) (b : Nat) : jo x (l ++ [b]) = jo x l * 256 % 18446744073709551616 + b := by simp [jo]
theorem jo_lt {x : Nat} (hx : x < 18446744073709551616) : ∀ l : List Nat, (∀ b ∈ l, b < 256) → jo x l < 18446744073709551616 := by
  intro l
  induction l generalizing x with
  | nil => intro _; exact hx
  | cons b r ih =>
    intro h
    have hb := h b (by simp)
    exact ih (x := x * 256 % 18446744073709551616 + b) (by omega) fun c hc => h c (by simp [hc])
theorem jo_num {x : Nat} : ∀ l : List Nat, x * 256 ^ l.length + num l < 18446744073709551616 → jo x l = x * 256 ^ l.length + num l := by
  intro l
  induction l generalizing x with
  | nil => intro _; simp [jo, num]
  | cons b r ih =>
    intro h
    rw [num_cons, List.length_cons, Nat.pow_succ] at h ⊢
    have e : x * (256 ^ r.length * 256) + (b * 256 ^ r.length + num r) = (x * 256 + b) * 256 ^ r.length + num r := by
      rw [Nat.add_mul, Nat.mul_assoc, Nat.mul_comm 256]; omega
    rw [e] at h ⊢
    have hp : 0 < 256 ^ r.length := Nat.pow_pos (by omega)
    have h2 : x * 256 + b ≤ (x * 256 + b) * 256 ^ r.length := Nat.le_mul_of_pos_right _ hp
    have h3 : x * 256 % 18446744073709551616 = x * 256 := Nat.mod_eq_of_lt (by omega)
    show jo (x * 256 % 18446744073709551616 + b) r = _
    rw [h3]
    exact ih h
theorem or_byte {x b : Nat} (hb : b < 256) : bits .or .u64 (IntKind.u64.wrap ((x : Int) * 256)) (b : Int) = ((x * 256 % 18446744073709551616 + b : Nat) : Int) := by
  rw [IntKind.wrap_u64, show (x : Int) * 256 % 18446744073709551616 = ((x * 256 % 18446744073709551616 : Nat) : Int) by omega, u64_or_nat _ _ (Nat.mod_lt _ (by omega)) (by omega)]
  congr 1
  rw [show x * 256 % 18446744073709551616 = 2 ^ 8 * (x % 72057594037927936) by omega]
  exact (Nat.two_pow_add_eq_or_of_lt hb _).symm
set_option maxHeartbeats 1000000 in
theorem join_any (x : Nat) (hx : x < 18446744073709551616) (s : ByteArray) (hs : s.size ≤ 9223372036854775807) (w : World) :
    Calls Tryd.prog 94 #[.int .u64 (x : Nat), .string s] w fun e w' => e = .returned (.int .u64 (jo x (bs s) : Nat)) ∧ w' = w := by
  go_enter Tryd.func94, Tryd.ntmps94
  go_wp2
  go_loop [0, 5] (fun r i => ∃ j : Nat, j ≤ s.size ∧ i = .int .i64 j ∧ r = .int .u64 (jo x ((bs s).take j) : Nat)) (fun _ i => s.size - (intOf i).toNat)
  case atStart => exact ⟨0, Nat.zero_le _, rfl, rfl⟩
  case round =>
    obtain ⟨j, hj, rfl, rfl⟩ := hrel
    have HRl := jo_lt hx ((bs s).take j) (fun b hb => bs_lt s b (List.mem_of_mem_take hb))
    by_cases hjl : j < s.size
    · have hbl := bs_lt s (s[j]'hjl).toNat (List.mem_of_getElem? (bs_get s j hjl))
      have HE : Hid (jo x ((bs s).take j) * 256 % 18446744073709551616 + (s[j]'hjl).toNat = jo x ((bs s).take (j + 1))) := by
        show _ = _
        rw [bs_take_succ hjl, jo_snoc]
      have e1 := or_byte (x := jo x ((bs s).take j)) hbl
      generalize jo x ((bs s).take j) = R at *
      go_wp2
      go_round
      case rel => exact ⟨j + 1, by omega, by go_num, by rw [← HE.out]; go_num⟩
      case measure => simp [intOf]; omega
    · have HE : Hid (jo x ((bs s).take j) = jo x (bs s)) := by
        show _ = _
        rw [bs_take_all s hjl]
      generalize jo x ((bs s).take j) = R at *
      go_wp2
      go_ret
      exact ⟨ret_int (by rw [HE.out]), rfl⟩

end Cr
end Go.Proofs.YtnpbgjafahhadaaDoor

namespace Go.Proofs.YtnpbgjafahhadaaDoor
open Go.RowKit
namespace Cr

theorem same_b {P : Program} {f : FuncId} {args : Array Value} {w : World} {v : Value} (h : Calls P f args w fun e w' => e = .returned v ∧ w' = w) : Calls P f args w fun e w' => e = .returned v ∧ Below w.heap.size w w' :=
  h.mono fun _ _ ⟨h1, h2⟩ => ⟨h1, by rw [h2]; exact Below.refl _ _⟩
theorem bs_extract (s : ByteArray) {a b : Nat} : bs (s.extract a b) = ((bs s).drop a).take (b - a) := by
  simp only [bs, ByteArray.data_extract, ← List.map_drop, ← List.map_take]
  congr 1
  rw [Array.toList_extract, List.extract_eq_take_drop]
theorem extract_size_le (s : ByteArray) (a b : Nat) : (s.extract a b).size ≤ s.size := by
  rw [ByteArray.size_extract]
  omega
/-- The value that a first byte and those behind it tell. -/
def fv (b : Nat) (r : List Nat) : Nat := (b - hd (lenOf b)) * 256 ^ (lenOf b - 1) + num (r.take (lenOf b - 1))
theorem fv_size {b : Nat} {r : List Nat} (hb : b < 256) (hr : ∀ c ∈ r, c < 256) : size (fv b r) ≤ lenOf b ∧ fv b r < 18446744073709551616 := by
  have hnl := num_lt (r.take (lenOf b - 1)) fun c hc => hr c (List.mem_of_mem_take hc)
  have hle : (r.take (lenOf b - 1)).length ≤ lenOf b - 1 := by rw [List.length_take]; omega
  have hn2 : num (r.take (lenOf b - 1)) < 256 ^ (lenOf b - 1) := Nat.lt_of_lt_of_le hnl (Nat.pow_le_pow_right (by omega) hle)
  have hlt : fv b r < 18446744073709551616 := by
    unfold fv
    generalize num (r.take (lenOf b - 1)) = m at *
    rcases lenOf_cases b hb with ⟨h, h1⟩ | ⟨h, h0, h1⟩ | ⟨h, h0, h1⟩ | ⟨h, h0, h1⟩ | ⟨h, h0, h1⟩ | ⟨h, h0, h1⟩ | ⟨h, h0, h1⟩ | ⟨h, h1⟩ | ⟨h, h1⟩ <;> rw [h] at hn2 ⊢ <;> simp only [hd, Nat.reduceSub, Nat.reducePow] at hn2 ⊢ <;> omega
  refine ⟨?_, hlt⟩
  have hc := size_cases _ hlt
  unfold fv at hc ⊢
  generalize num (r.take (lenOf b - 1)) = m at *
  rcases lenOf_cases b hb with ⟨h, h1⟩ | ⟨h, h0, h1⟩ | ⟨h, h0, h1⟩ | ⟨h, h0, h1⟩ | ⟨h, h0, h1⟩ | ⟨h, h0, h1⟩ | ⟨h, h0, h1⟩ | ⟨h, h1⟩ | ⟨h, h1⟩ <;> rw [h] at hn2 hc ⊢ <;> simp only [hd, Nat.reduceSub, Nat.reducePow] at hn2 hc ⊢ <;> omega
theorem few_short {F : Int} {b : Nat} {r : List Nat} (h : r.length + 1 < lenOf b) : few F (b :: r) = (0, 0, 10) := by rw [few, if_pos h]
theorem few_form {F : Int} {b : Nat} {r : List Nat} (h : ¬ r.length + 1 < lenOf b) (h2 : size (fv b r) ≠ lenOf b) : few F (b :: r) = (0, 0, F) := by
  rw [few, if_neg h, if_pos]
  exact h2
theorem few_ok {F : Int} {b : Nat} {r : List Nat} (h : ¬ r.length + 1 < lenOf b) (h2 : size (fv b r) = lenOf b) : few F (b :: r) = (fv b r, lenOf b, 0) := by
  rw [few, if_neg h, if_neg]
  · rfl
  · exact fun h3 => h3 h2
theorem jo_fv {b : Nat} {r : List Nat} (hb : b < 256) (hr : ∀ c ∈ r, c < 256) (hl : ¬ r.length + 1 < lenOf b) : jo (b - hd (lenOf b)) (r.take (lenOf b - 1)) = fv b r := by
  have h := (fv_size hb hr).2
  have e : (r.take (lenOf b - 1)).length = lenOf b - 1 := by rw [List.length_take]; omega
  unfold fv at h ⊢
  rw [jo_num, e]
  rw [e]
  exact h
theorem jo_zero {l : List Nat} (hl : ∀ b ∈ l, b < 256) (h8 : l.length ≤ 8) : jo 0 l = num l := by
  have h1 := num_lt l hl
  have h2 : 256 ^ l.length ≤ 256 ^ 8 := Nat.pow_le_pow_right (by omega) h8
  rw [jo_num, Nat.zero_mul, Nat.zero_add]
  rw [Nat.zero_mul, Nat.zero_add]
  exact Nat.lt_of_lt_of_le h1 h2
theorem bs_cons {s : ByteArray} (h : 0 < s.size) : ∃ r, bs s = (s[0]'h).toNat :: r ∧ r.length + 1 = s.size ∧ (∀ c ∈ r, c < 256) ∧ (s[0]'h).toNat < 256 := by
  have h0 := bs_get s 0 h
  have hl := bs_length s
  have hlt := bs_lt s
  cases hb : bs s with
  | nil => rw [hb] at h0; simp at h0
  | cons x r =>
    rw [hb] at h0 hl hlt
    simp at h0
    subst h0
    exact ⟨r, rfl, by simpa using hl, fun c hc => hlt c (by simp [hc]), hlt _ (by simp)⟩
theorem empty_of {s : ByteArray} (h : s.size = 0) : s = ⟨#[]⟩ := by
  apply bs_inj
  have := bs_length s
  rw [h] at this
  rw [List.eq_nil_of_length_eq_zero this]
  rfl
theorem isEmpty_no {s : ByteArray} (h : 0 < s.size) : s.toList.isEmpty = false := by
  rw [ByteArray.toList_eq]
  have : s.data.toList.length = s.size := by rw [Array.length_toList]; rfl
  cases hd : s.data.toList with
  | nil => rw [hd] at this; simp at this; omega
  | cons a r => rfl
theorem not_empty {s : ByteArray} (h : 0 < s.size) : ¬ s = ⟨#[]⟩ := by
  intro e
  rw [e] at h
  exact absurd h (by decide)
theorem xor_fin : ∀ b : Fin 256, bits .xor .u8 255 ((b.val : Nat) : Int) = 255 - ((b.val : Nat) : Int) := by decide +kernel
theorem xor255 {b : Nat} (h : b < 256) : bits .xor .u8 255 (b : Int) = 255 - (b : Int) := xor_fin ⟨b, h⟩
theorem ret3 {k k2 k3 : IntKind} {a a2 b b2 c c2 : Int} (h : a = a2) (h2 : b = b2) (h3 : c = c2) : Ending.returned (.tuple #[.int k a, .int k2 b, .int k3 c]) = .returned (.tuple #[.int k a2, .int k2 b2, .int k3 c2]) := by rw [h, h2, h3]
set_option maxHeartbeats 2000000 in
theorem few_any (s : ByteArray) (hs : s.size ≤ 9223372036854775807) (w : World) :
    Calls Tryd.prog 100 #[.string s] w fun e w' => e = .returned (.tuple #[.int .u64 ((few 12 (bs s)).1 : Nat), .int .i64 ((few 12 (bs s)).2.1 : Nat), .int .i64 (few 12 (bs s)).2.2]) ∧ Below w.heap.size w w' := by
  have hne := later_ne w
  by_cases h0 : 0 < s.size
  · have hb := isEmpty_no h0
    obtain ⟨r, hbs, hrl, hr, hb0⟩ := bs_cons h0
    have hlead := lead_any (s[0]'h0).toNat hb0 
    have hnp := lenOf_pos (s[0]'h0).toNat
    have hmark : ∀ w, _ := fun w => same_b (mark_any (lenOf (s[0]'h0).toNat) hnp.1 hnp.2 w)
    have e1 := andNot_hd hb0
    have e2 := xor255 hb0
    have hhd := hd_le _ hb0
    have hsg : IntKind.u8.signed = false := rfl
    have hmx : IntKind.u8.max = 255 := rfl
    by_cases h1 : r.length + 1 < lenOf (s[0]'h0).toNat
    · have HF := hide (few_short (F := 12) h1)
      rw [← hbs] at HF
      clear hbs hmark e1
      rw [hrl] at h1
      generalize lenOf (s[0]'h0).toNat = n at *
      go_enter Tryd.func100, Tryd.ntmps100
      go_wp2_with fail
      refine (hlead _).mono ?_
      rintro e w' ⟨rfl, rfl⟩
      go_wp2
      ((try simp only [Exit.inBlock, Exit.then]); refine bodyPost_ret (results_tmp3 rfl _ _ _) rfl ?_)
      exact ⟨by rw [HF.out]; rfl, Below.refl _ _⟩
    · have hje := jo_fv hb0 hr h1
      have hjoin : ∀ w, _ := fun w => same_b (join_any ((s[0]'h0).toNat - hd (lenOf (s[0]'h0).toNat)) (by omega) (s.extract 1 (lenOf (s[0]'h0).toNat)) (Nat.le_trans (extract_size_le _ _ _) hs) w)
      rw [bs_extract, hbs, List.drop_succ_cons, List.drop_zero, hje] at hjoin
      obtain ⟨hfs, hfl⟩ := fv_size hb0 hr
      have hsz : ∀ w, _ := fun w => size_any (fv (s[0]'h0).toNat r) hfl w
      by_cases h2 : size (fv (s[0]'h0).toNat r) = lenOf (s[0]'h0).toNat
      · have HF := hide (few_ok (F := 12) h1 h2)
        rw [← hbs] at HF
        rw [h2] at hsz
        clear hbs hje h2
        rw [hrl] at h1
        generalize fv (s[0]'h0).toNat r = V at *
        generalize hgn : lenOf (s[0]'h0).toNat = n at *
        clear hgn
        have h1' : ((n : Int) ≤ (s.size : Int)) := by omega
        go_enter Tryd.func100, Tryd.ntmps100
        go_wp2_with fail
        refine (hlead _).mono ?_
        rintro e w' ⟨rfl, rfl⟩
        go_wp2
        refine wp_region_later (by kernel_rfl) (by kernel_rfl) ?_
        (repeat (first | go_big_quiet_skip | (go_big_quiet_want; go_big_quiet_op; go_big_quiet_on)))
        (go_big_quiet_want; go_big_quiet_op; apply Exists.intro; refine ⟨fun p => ?_, ?_⟩; (· exact later_of (hmark _)); go_big_quiet_on)
        (repeat (first | go_big_quiet_skip | (go_big_quiet_want; go_big_quiet_op; go_big_quiet_on)))
        (go_big_quiet_want; go_big_quiet_op; apply Exists.intro; refine ⟨fun p => ?_, ?_⟩; (· exact later_of (hjoin _)); go_big_quiet_on)
        (repeat (first | go_big_quiet_skip | (go_big_quiet_want; go_big_quiet_op; go_big_quiet_on)))
        refine wpQuiet_nil ?_
        rintro _ ⟨p, rfl⟩
        go_wp2_with fail
        refine (hsz _).mono ?_
        rintro e w' ⟨rfl, rfl⟩
        go_wp2
        ((try simp only [Exit.inBlock, Exit.then]); refine bodyPost_ret (results_tmp3 rfl _ _ _) rfl ?_)
        exact ⟨by rw [HF.out]; rfl, p.below⟩
      · have HF := hide (few_form (F := 12) h1 h2)
        rw [← hbs] at HF
        have h3 : (size (fv (s[0]'h0).toNat r) : Int) < (lenOf (s[0]'h0).toNat : Int) := by omega
        clear hbs hje h2
        rw [hrl] at h1
        generalize size (fv (s[0]'h0).toNat r) = S at *
        generalize fv (s[0]'h0).toNat r = V at *
        generalize hgn : lenOf (s[0]'h0).toNat = n at *
        clear hgn
        have h1' : ((n : Int) ≤ (s.size : Int)) := by omega
        go_enter Tryd.func100, Tryd.ntmps100
        go_wp2_with fail
        refine (hlead _).mono ?_
        rintro e w' ⟨rfl, rfl⟩
        go_wp2
        refine wp_region_later (by kernel_rfl) (by kernel_rfl) ?_
        (repeat (first | go_big_quiet_skip | (go_big_quiet_want; go_big_quiet_op; go_big_quiet_on)))
        (go_big_quiet_want; go_big_quiet_op; apply Exists.intro; refine ⟨fun p => ?_, ?_⟩; (· exact later_of (hmark _)); go_big_quiet_on)
        (repeat (first | go_big_quiet_skip | (go_big_quiet_want; go_big_quiet_op; go_big_quiet_on)))
        (go_big_quiet_want; go_big_quiet_op; apply Exists.intro; refine ⟨fun p => ?_, ?_⟩; (· exact later_of (hjoin _)); go_big_quiet_on)
        (repeat (first | go_big_quiet_skip | (go_big_quiet_want; go_big_quiet_op; go_big_quiet_on)))
        refine wpQuiet_nil ?_
        rintro _ ⟨p, rfl⟩
        go_wp2_with fail
        refine (hsz _).mono ?_
        rintro e w' ⟨rfl, rfl⟩
        go_wp2
        ((try simp only [Exit.inBlock, Exit.then]); refine bodyPost_ret (results_tmp3 rfl _ _ _) rfl ?_)
        exact ⟨by rw [HF.out]; rfl, p.below⟩
  · obtain rfl := empty_of (show s.size = 0 by omega)
    go_enter Tryd.func100, Tryd.ntmps100
    go_wp2
    ((try simp only [Exit.inBlock, Exit.then]); refine bodyPost_ret (results_tmp3 rfl _ _ _) rfl ?_)
    exact ⟨rfl, Below.refl _ _⟩

end Cr
end Go.Proofs.YtnpbgjafahhadaaDoor

namespace Go.Proofs.YtnpbgjafahhadaaDoor
open Go.RowKit
namespace Cr

theorem size_le {x k : Nat} (h1 : 1 ≤ k) (h8 : k ≤ 8) : size x ≤ k ↔ x < 128 ^ k := by
  have hp := size_pos x
  rcases (by omega : k = 1 ∨ k = 2 ∨ k = 3 ∨ k = 4 ∨ k = 5 ∨ k = 6 ∨ k = 7 ∨ k = 8) with rfl | rfl | rfl | rfl | rfl | rfl | rfl | rfl
  all_goals
    simp only [Nat.reducePow]
    unfold size
    constructor
    · intro h
      (repeat' split at h) <;> omega
    · intro h
      (repeat' split) <;> omega
theorem pow128_le {k : Nat} (h : k ≤ 8) : 128 ^ k ≤ 72057594037927936 := Nat.pow_le_pow_right (n := 128) (by omega) h
set_option maxHeartbeats 1000000 in
theorem rsize_any (x : Nat) (_hx : x < 18446744073709551616) (w : World) :
    Calls Tryd.prog 61 #[.int .u64 (x : Nat)] w fun e w' => e = .returned (.int .i64 (size x : Nat)) ∧ w' = w := by
  have hsp := size_pos x
  go_enter Tryd.func61, Tryd.ntmps61
  go_wp2
  go_loop [3, 4] (fun n m => ∃ k : Nat, 1 ≤ k ∧ k ≤ 9 ∧ k ≤ size x ∧ n = .int .i64 k ∧ m = .int .u64 (128 ^ min k 8 : Nat)) (fun n _ => 9 - (intOf n).toNat)
  case atStart => exact ⟨1, by omega, by omega, hsp.1, rfl, rfl⟩
  case round =>
    obtain ⟨k, h1, h9, hk, rfl, rfl⟩ := hrel
    by_cases hlt : k < 9
    · have hM := pow128_le (k := min k 8) (by omega)
      have HI : Hid (size x ≤ k ↔ x < 128 ^ min k 8) := by
        show _ ↔ _
        rw [show min k 8 = k by omega]
        exact size_le h1 (by omega)
      have HN : Hid (k < 8 → 128 * 128 ^ min k 8 = 128 ^ min (k + 1) 8) := by
        intro h
        rw [show min k 8 = k by omega, show min (k + 1) 8 = k + 1 by omega, Nat.pow_succ, Nat.mul_comm]
      have HN8 : Hid (k = 8 → 128 ^ min k 8 = 128 ^ min (k + 1) 8) := by
        intro h
        subst h
        rfl
      generalize 128 ^ min k 8 = M at *
      by_cases hx2 : x < M
      · have HS : Hid (size x = k) := by
          have := HI.out.2 hx2
          show _ = _
          omega
        go_wp2
        go_ret
        exact ⟨ret_int (by rw [HS.out]), rfl⟩
      · have HS : Hid (¬ size x ≤ k) := fun h => hx2 (HI.out.1 h)
        by_cases h8 : k < 8
        · have HM := HN.out h8
          have HM2 := hide HM
          clear HM
          go_wp2
          go_round
          case rel => exact ⟨k + 1, by omega, by omega, by have := HS.out; omega, by go_num, by rw [← HM2.out]; go_num⟩
          case measure => simp [intOf]; omega
        · have HM2 := hide (HN8.out (by omega))
          go_wp2
          go_round
          case rel => exact ⟨k + 1, by omega, by omega, by have := HS.out; omega, by go_num, by rw [← HM2.out]⟩
          case measure => simp [intOf]; omega
    · have HS : Hid (size x = k) := by show _ = _; omega
      generalize 128 ^ min k 8 = M at *
      go_wp2
      go_ret
      exact ⟨ret_int (by rw [HS.out]), rfl⟩
/-- The bit that is next in a first byte. -/
def un (i : Nat) : Nat := 256 / 2 ^ i
theorem un_next {i : Nat} (h1 : 1 ≤ i) (h8 : i ≤ 8) : hd i + un i = hd (i + 1) ∧ un i / 2 = un (i + 1) ∧ un i ≤ 128 ∧ hd i ≤ 255 := by
  rcases (by omega : i = 1 ∨ i = 2 ∨ i = 3 ∨ i = 4 ∨ i = 5 ∨ i = 6 ∨ i = 7 ∨ i = 8) with rfl | rfl | rfl | rfl | rfl | rfl | rfl | rfl <;> decide
set_option maxHeartbeats 1000000 in
theorem head_any (n : Nat) (h1 : 1 ≤ n) (h9 : n ≤ 9) (w : World) :
    Calls Tryd.prog 62 #[.int .i64 (n : Nat)] w fun e w' => e = .returned (.int .i64 (hd n : Nat)) ∧ w' = w := by
  go_enter Tryd.func62, Tryd.ntmps62
  go_wp2
  go_loop [3, 4, 5] (fun b u i => ∃ k : Nat, 1 ≤ k ∧ k ≤ n ∧ i = .int .i64 k ∧ b = .int .i64 (hd k : Nat) ∧ u = .int .i64 (un k : Nat)) (fun _ _ i => 9 - (intOf i).toNat)
  case atStart => exact ⟨1, by omega, h1, rfl, rfl, rfl⟩
  case round =>
    obtain ⟨k, hk1, hkn, rfl, rfl, rfl⟩ := hrel
    by_cases hlt : k < n
    · obtain ⟨e1, e2, e3, e4⟩ := un_next hk1 (show k ≤ 8 by omega)
      have E1 := hide e1
      have E2 := hide e2
      clear e1 e2
      generalize hd k = H at *
      generalize un k = U at *
      go_wp2
      go_round
      case rel => exact ⟨k + 1, by omega, by omega, by go_num, by rw [← E1.out]; go_num, by rw [← E2.out]; go_num⟩
      case measure => simp [intOf]; omega
    · obtain rfl : k = n := by omega
      generalize un k = U at *
      go_wp2
      go_ret
      exact ⟨rfl, rfl⟩
theorem conv_one (b : Nat) (w : World) : (convert 52 9 (.slice (some ⟨w.heap.size, 0, none⟩) 1 1)).run Tryd.prog (w.alloc (.cells #[.int .u8 (b : Nat)] 5)) = .ok (.string (str [b])) (w.alloc (.cells #[.int .u8 (b : Nat)] 5)) :=
  conv_bytes _ _ 0 1 1 [b] rfl fun i x hx => by
    cases i with
    | zero => simp at hx; subst hx; simp
    | succ i => simp at hx
theorem be_succ (x k : Nat) : str [x / 256 ^ k % 256] ++ str (be x k) = str (be x (k + 1)) := by rw [← str_append]; rfl
theorem ofs_one {x : Nat} : ((x : Int) % 256) = ((x % 256 : Nat) : Int) := by omega
set_option maxHeartbeats 1000000 in
theorem rfixed_any (x n : Nat) (hx : x < 18446744073709551616) (hn : n ≤ 8) (w : World) :
    Calls Tryd.prog 32 #[.int .u64 (x : Nat), .int .i64 (n : Nat)] w fun e w' => e = .returned (.string (str (be x n))) ∧ Below w.heap.size w w' := by
  go_enter Tryd.func32, Tryd.ntmps32
  go_wp2
  go_loopw [0, 5, 6] (fun y o i wr => ∃ k : Nat, k ≤ n ∧ i = .int .i64 k ∧ y = .int .u64 (x / 256 ^ k : Nat) ∧ o = .string (str (be x k)) ∧ Below w.heap.size w wr) (fun _ _ i _ => n - (intOf i).toNat)
  case atStart => exact ⟨0, Nat.zero_le _, rfl, by simp, rfl, Below.refl _ _⟩
  case round =>
    obtain ⟨k, hk, rfl, rfl, rfl, hbr⟩ := hrel
    by_cases hlt : k < n
    · have HB := hide (be_succ x k)
      have HD := hide (pow256 x k)
      have hxl : x / 256 ^ k < 18446744073709551616 := Nat.lt_of_le_of_lt (Nat.div_le_self _ _) hx
      have hl : (str (be x k)).size ≤ 8 := by rw [str_size, be_length]; omega
      have hl1 : (str [x / 256 ^ k % 256]).size = 1 := by rw [str_size]; rfl
      have hcv := conv_one (x / 256 ^ k % 256) wr
      generalize x / 256 ^ k = X at *
      generalize str (be x k) = S at *
      rw [show ((X % 256 : Nat) : Int) = (X : Int) % 256 by omega] at hcv
      generalize str [X % 256] = C at *
      go_wp2
      go_roundw
      case rel => exact ⟨k + 1, by omega, by go_num, by rw [← HD.out]; go_num, by rw [← HB.out], hbr.trans ((below_alloc _ _).mono hbr.size)⟩
      case measure => simp [intOf]; omega
    · obtain rfl : k = n := by omega
      go_wp2
      go_ret
      exact ⟨rfl, hbr⟩

end Cr
end Go.Proofs.YtnpbgjafahhadaaDoor
