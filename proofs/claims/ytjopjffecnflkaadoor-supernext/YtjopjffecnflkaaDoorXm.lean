/- Bytes and strings, and numbers in few bytes, the high ones first: plain numbers, no program. -/
import Derived.Test.YtjopjffecnflkaaDoorWg
import Derived.Test.YtjopjffecnflkaaDoorLx
import Derived.Laws.Strings
import Derived.Laws.BitsAllLaws
namespace Go.Proofs.YtjopjffecnflkaaDoor
namespace Cr

/-- The n lowest bytes of a number, the high one first. -/
def be (x : Nat) : Nat → List Nat
  | 0 => []
  | n + 1 => x / 256 ^ n % 256 :: be x n
/-- Bytes as a number, the high one first. -/
def num (l : List Nat) : Nat := l.foldl (fun a b => 256 * a + b) 0
theorem be_length (x : Nat) : ∀ n, (be x n).length = n
  | 0 => rfl
  | n + 1 => by simp [be, be_length x n]
theorem be_lt (x : Nat) : ∀ n, ∀ b ∈ be x n, b < 256
  | 0, b, h => by simp [be] at h
  | n + 1, b, h => by
    simp only [be, List.mem_cons] at h
    rcases h with h | h
    · rw [h]; exact Nat.mod_lt _ (by omega)
    · exact be_lt x n b h
theorem num_from (a : Nat) : ∀ l : List Nat, l.foldl (fun a b => 256 * a + b) a = a * 256 ^ l.length + num l
  | [] => by simp [num]
  | b :: r => by
    have h1 := num_from (256 * a + b) r
    have h2 := num_from (256 * 0 + b) r
    simp only [num, List.foldl_cons] at *
    rw [h1, h2, List.length_cons, Nat.pow_succ, Nat.add_mul, Nat.mul_zero, Nat.zero_add, Nat.add_assoc, Nat.mul_comm 256 a, Nat.mul_assoc, Nat.mul_comm 256]
theorem num_cons (b : Nat) (r : List Nat) : num (b :: r) = b * 256 ^ r.length + num r := by
  have := num_from (256 * 0 + b) r
  rw [Nat.mul_zero, Nat.zero_add] at this
  simpa [num] using this
theorem num_lt : ∀ l : List Nat, (∀ b ∈ l, b < 256) → num l < 256 ^ l.length
  | [], _ => by simp [num]
  | b :: r, h => by
    have h1 := num_lt r fun c hc => h c (by simp [hc])
    have h2 := h b (by simp)
    rw [num_cons, List.length_cons, Nat.pow_succ]
    have : b * 256 ^ r.length ≤ 255 * 256 ^ r.length := Nat.mul_le_mul_right _ (by omega)
    omega
theorem num_be (x : Nat) : ∀ n, num (be x n) = x % 256 ^ n
  | 0 => by simp [be, num, Nat.mod_one]
  | n + 1 => by
    rw [be, num_cons, num_be x n, be_length, Nat.pow_succ, Nat.mod_mul]
    rw [Nat.mul_comm, Nat.add_comm]
theorem be_mod (x : Nat) : ∀ n, be (x % 256 ^ n) n = be x n
  | 0 => rfl
  | n + 1 => by
    have h1 : ∀ m, m ≤ n → be (x % 256 ^ (n + 1)) m = be x m := by
      intro m
      induction m with
      | zero => intro _; rfl
      | succ m ih =>
        intro hm
        rw [be, be, ih (by omega)]
        congr 1
        rw [show n + 1 = (m + 1) + (n - m) by omega, Nat.pow_add, Nat.mod_mul, Nat.add_comm, Nat.pow_succ]
        rw [show 256 ^ m * 256 * (x / (256 ^ m * 256) % 256 ^ (n - m)) + x % (256 ^ m * 256) = 256 ^ m * (256 * (x / (256 ^ m * 256) % 256 ^ (n - m))) + x % (256 ^ m * 256) by rw [Nat.mul_assoc]]
        rw [Nat.mul_add_div (Nat.pow_pos (by omega)), Nat.mul_add_mod, Nat.mod_mul_right_div_self]
        omega
    rw [be, be, h1 n (Nat.le_refl _)]
    congr 1
    rw [Nat.pow_succ, Nat.mod_mul_right_div_self]
    omega
theorem be_num : ∀ l : List Nat, (∀ b ∈ l, b < 256) → be (num l) l.length = l
  | [], _ => rfl
  | b :: r, h => by
    have hb := h b (by simp)
    have hr := fun c hc => h c (List.mem_cons_of_mem b hc)
    have h1 := num_lt r hr
    have ih := be_num r hr
    have hp : 0 < 256 ^ r.length := Nat.pow_pos (by omega)
    rw [List.length_cons, be, num_cons]
    have e1 : (b * 256 ^ r.length + num r) / 256 ^ r.length = b := by
      rw [Nat.mul_comm, Nat.mul_add_div hp, Nat.div_eq_of_lt h1, Nat.add_zero]
    have e2 : be (b * 256 ^ r.length + num r) r.length = r := by
      rw [← be_mod, Nat.mul_comm, Nat.mul_add_mod, Nat.mod_eq_of_lt h1, ih]
    rw [e1, e2, Nat.mod_eq_of_lt hb]
/-- How many bytes a number needs. -/
def size (x : Nat) : Nat :=
  if x < 128 then 1 else if x < 16384 then 2 else if x < 2097152 then 3 else if x < 268435456 then 4 else if x < 34359738368 then 5 else if x < 4398046511104 then 6
  else if x < 562949953421312 then 7 else if x < 72057594037927936 then 8 else 9
/-- The first byte's bits that tell that there are n bytes. -/
def hd (n : Nat) : Nat := 256 - 2 ^ (9 - n)
/-- How many bytes a first byte tells. -/
def lenOf (b : Nat) : Nat :=
  if b < 128 then 1 else if b < 192 then 2 else if b < 224 then 3 else if b < 240 then 4 else if b < 248 then 5 else if b < 252 then 6 else if b < 254 then 7 else if b < 255 then 8 else 9
/-- A number in few bytes. -/
def vr (x : Nat) : List Nat := (hd (size x) + x / 256 ^ (size x - 1)) :: be x (size x - 1)
theorem size_pos (x : Nat) : 1 ≤ size x ∧ size x ≤ 9 := by
  unfold size
  repeat' split
  all_goals omega
theorem vr_length (x : Nat) : (vr x).length = size x := by
  have := size_pos x
  rw [vr, List.length_cons, be_length]
  omega
/-- What a size says of a number, and of its first byte. -/
theorem size_cases (x : Nat) (hx : x < 18446744073709551616) :
    (size x = 1 ∧ x < 128) ∨ (size x = 2 ∧ 128 ≤ x ∧ x < 16384) ∨ (size x = 3 ∧ 16384 ≤ x ∧ x < 2097152) ∨ (size x = 4 ∧ 2097152 ≤ x ∧ x < 268435456) ∨ (size x = 5 ∧ 268435456 ≤ x ∧ x < 34359738368) ∨
    (size x = 6 ∧ 34359738368 ≤ x ∧ x < 4398046511104) ∨ (size x = 7 ∧ 4398046511104 ≤ x ∧ x < 562949953421312) ∨ (size x = 8 ∧ 562949953421312 ≤ x ∧ x < 72057594037927936) ∨ (size x = 9 ∧ 72057594037927936 ≤ x ∧ x < 18446744073709551616) := by
  unfold size
  repeat' split
  all_goals omega
theorem lenOf_is {b : Nat} : (b < 128 → lenOf b = 1) ∧ (128 ≤ b → b < 192 → lenOf b = 2) ∧ (192 ≤ b → b < 224 → lenOf b = 3) ∧ (224 ≤ b → b < 240 → lenOf b = 4) ∧ (240 ≤ b → b < 248 → lenOf b = 5) ∧ (248 ≤ b → b < 252 → lenOf b = 6) ∧ (252 ≤ b → b < 254 → lenOf b = 7) ∧ (b = 254 → lenOf b = 8) ∧ (255 ≤ b → lenOf b = 9) := by
  unfold lenOf
  refine ⟨fun h => ?_, fun h h' => ?_, fun h h' => ?_, fun h h' => ?_, fun h h' => ?_, fun h h' => ?_, fun h h' => ?_, fun h => ?_, fun h => ?_⟩
  all_goals (repeat' split)
  all_goals omega
theorem lenOf_vr (x : Nat) (hx : x < 18446744073709551616) : lenOf (hd (size x) + x / 256 ^ (size x - 1)) = size x ∧ hd (size x) + x / 256 ^ (size x - 1) < 256 := by
  obtain ⟨l1, l2, l3, l4, l5, l6, l7, l8, l9⟩ := @lenOf_is (hd (size x) + x / 256 ^ (size x - 1))
  rcases size_cases x hx with ⟨h, h1⟩ | ⟨h, h0, h1⟩ | ⟨h, h0, h1⟩ | ⟨h, h0, h1⟩ | ⟨h, h0, h1⟩ | ⟨h, h0, h1⟩ | ⟨h, h0, h1⟩ | ⟨h, h0, h1⟩ | ⟨h, h0, h1⟩ <;> rw [h] at l1 l2 l3 l4 l5 l6 l7 l8 l9 ⊢ <;> simp only [hd, Nat.reduceSub, Nat.reducePow] at l1 l2 l3 l4 l5 l6 l7 l8 l9 ⊢
  · exact ⟨l1 (by omega), by omega⟩
  · exact ⟨l2 (by omega) (by omega), by omega⟩
  · exact ⟨l3 (by omega) (by omega), by omega⟩
  · exact ⟨l4 (by omega) (by omega), by omega⟩
  · exact ⟨l5 (by omega) (by omega), by omega⟩
  · exact ⟨l6 (by omega) (by omega), by omega⟩
  · exact ⟨l7 (by omega) (by omega), by omega⟩
  · exact ⟨l8 (by omega), by omega⟩
  · exact ⟨l9 (by omega), by omega⟩
theorem vr_lt (x : Nat) (hx : x < 18446744073709551616) : ∀ b ∈ vr x, b < 256 := by
  intro b hb
  rw [vr, List.mem_cons] at hb
  rcases hb with hb | hb
  · rw [hb]; exact (lenOf_vr x hx).2
  · exact be_lt _ _ b hb
/-- The number in few bytes at the beginning: it, how many bytes it has, what is wrong (10: too short, F: another form). -/
def few (F : Int) : List Nat → Nat × Nat × Int
  | [] => (0, 0, 10)
  | b :: r => if r.length + 1 < lenOf b then (0, 0, 10) else if size ((b - hd (lenOf b)) * 256 ^ (lenOf b - 1) + num (r.take (lenOf b - 1))) ≠ lenOf b then (0, 0, F)
    else ((b - hd (lenOf b)) * 256 ^ (lenOf b - 1) + num (r.take (lenOf b - 1)), lenOf b, 0)
/-- What was written is read. -/
theorem few_vr (F : Int) (x : Nat) (hx : x < 18446744073709551616) (r : List Nat) : few F (vr x ++ r) = (x, size x, 0) := by
  obtain ⟨h1, _⟩ := lenOf_vr x hx
  have hp := size_pos x
  rw [vr, List.cons_append, few, h1]
  have hl : (be x (size x - 1)).length = size x - 1 := be_length _ _
  rw [if_neg (by rw [List.length_append, hl]; omega), List.take_append_of_le_length (by omega), List.take_of_length_le (by omega), num_be, Nat.add_sub_cancel_left]
  have e : x / 256 ^ (size x - 1) * 256 ^ (size x - 1) + x % 256 ^ (size x - 1) = x := by rw [Nat.mul_comm]; exact Nat.div_add_mod x _
  rw [e, if_neg (by simp)]
/-- Of a beginning that is not all of it bytes are missing. -/
theorem few_cut (F : Int) (x : Nat) (hx : x < 18446744073709551616) (k : Nat) (hk : k < size x) : few F ((vr x).take k) = (0, 0, 10) := by
  obtain ⟨h1, _⟩ := lenOf_vr x hx
  cases k with
  | zero => rfl
  | succ k =>
    rw [vr, List.take_succ_cons, few, h1, if_pos]
    rw [List.length_take, be_length]
    omega
theorem lenOf_cases (b : Nat) (hb : b < 256) : (lenOf b = 1 ∧ b < 128) ∨ (lenOf b = 2 ∧ 128 ≤ b ∧ b < 192) ∨ (lenOf b = 3 ∧ 192 ≤ b ∧ b < 224) ∨ (lenOf b = 4 ∧ 224 ≤ b ∧ b < 240) ∨ (lenOf b = 5 ∧ 240 ≤ b ∧ b < 248) ∨ (lenOf b = 6 ∧ 248 ≤ b ∧ b < 252) ∨ (lenOf b = 7 ∧ 252 ≤ b ∧ b < 254) ∨ (lenOf b = 8 ∧ b = 254) ∨ (lenOf b = 9 ∧ b = 255) := by
  unfold lenOf
  repeat' split
  all_goals omega
theorem lenOf_pos (b : Nat) : 1 ≤ lenOf b ∧ lenOf b ≤ 9 := by
  unfold lenOf
  repeat' split
  all_goals omega
theorem hd_le (b : Nat) (hb : b < 256) : hd (lenOf b) ≤ b := by
  rcases lenOf_cases b hb with ⟨h, h1⟩ | ⟨h, h0, h1⟩ | ⟨h, h0, h1⟩ | ⟨h, h0, h1⟩ | ⟨h, h0, h1⟩ | ⟨h, h0, h1⟩ | ⟨h, h0, h1⟩ | ⟨h, h1⟩ | ⟨h, h1⟩ <;> rw [h] <;> simp only [hd, Nat.reduceSub, Nat.reducePow] <;> omega
/-- What is read is written as the same bytes. -/
theorem vr_few (F : Int) {l : List Nat} (hl : ∀ b ∈ l, b < 256) {x n : Nat} (h : few F l = (x, n, 0)) (hF : F ≠ 0) : vr x = l.take n ∧ n ≤ l.length ∧ n = size x := by
  cases l with
  | nil => simp [few] at h
  | cons b r =>
    rw [few] at h
    split at h
    · simp at h
    · rename_i hlen
      split at h
      · simp at h; exact absurd h.2.2 hF
      · rename_i hsz
        simp only [ne_eq, Decidable.not_not] at hsz
        simp only [Prod.mk.injEq, and_true] at h
        obtain ⟨hx, hn⟩ := h
        have hb := hl b (by simp)
        have hp := lenOf_pos b
        rw [hx] at hsz
        have hlt : (r.take (lenOf b - 1)).length = lenOf b - 1 := by rw [List.length_take]; omega
        have hnl := num_lt (r.take (lenOf b - 1)) fun c hc => hl c (List.mem_cons_of_mem _ (List.mem_of_mem_take hc))
        rw [hlt] at hnl
        have hpw : 0 < 256 ^ (lenOf b - 1) := Nat.pow_pos (by omega)
        have e1 : x / 256 ^ (lenOf b - 1) = b - hd (lenOf b) := by
          rw [← hx, Nat.mul_comm, Nat.mul_add_div hpw, Nat.div_eq_of_lt hnl, Nat.add_zero]
        have e2 : be x (lenOf b - 1) = r.take (lenOf b - 1) := by
          rw [← be_mod, ← hx, Nat.mul_comm, Nat.mul_add_mod, Nat.mod_eq_of_lt hnl]
          have := be_num (r.take (lenOf b - 1)) fun c hc => hl c (List.mem_cons_of_mem _ (List.mem_of_mem_take hc))
          rwa [hlt] at this
        have hh := hd_le b hb
        refine ⟨?_, ?_, ?_⟩
        · rw [vr, hsz, e1, e2, ← hn, show hd (lenOf b) + (b - hd (lenOf b)) = b by omega]
          rw [show lenOf b = (lenOf b - 1) + 1 by omega, List.take_succ_cons]
          rfl
        · rw [← hn, List.length_cons]; omega
        · rw [← hn, hsz]
theorem few_lt (F : Int) {l : List Nat} (hl : ∀ b ∈ l, b < 256) {x n : Nat} {e : Int} (h : few F l = (x, n, e)) : x < 18446744073709551616 := by
  cases l with
  | nil => simp [few] at h; omega
  | cons b r =>
    rw [few] at h
    split at h
    · simp at h; omega
    · split at h
      · simp at h; omega
      · simp only [Prod.mk.injEq] at h
        obtain ⟨hx, _, _⟩ := h
        have hb := hl b (by simp)
        have hnl := num_lt (r.take (lenOf b - 1)) fun c hc => hl c (List.mem_cons_of_mem _ (List.mem_of_mem_take hc))
        have hle : (r.take (lenOf b - 1)).length ≤ lenOf b - 1 := by rw [List.length_take]; omega
        have hn2 : num (r.take (lenOf b - 1)) < 256 ^ (lenOf b - 1) := Nat.lt_of_lt_of_le hnl (Nat.pow_le_pow_right (by omega) hle)
        rw [← hx]
        generalize num (r.take (lenOf b - 1)) = m at *
        rcases lenOf_cases b hb with ⟨h, h1⟩ | ⟨h, h0, h1⟩ | ⟨h, h0, h1⟩ | ⟨h, h0, h1⟩ | ⟨h, h0, h1⟩ | ⟨h, h0, h1⟩ | ⟨h, h0, h1⟩ | ⟨h, h1⟩ | ⟨h, h1⟩ <;> rw [h] at hn2 ⊢ <;> simp only [hd, Nat.reduceSub, Nat.reducePow] at hn2 ⊢ <;> omega
/-- The order of bytes, one by one. -/
def lexB : List Nat → List Nat → Bool
  | _, [] => false
  | [], _ :: _ => true
  | a :: r, b :: t => if a < b then true else if b < a then false else lexB r t
theorem lexB_be (x y : Nat) : ∀ n, lexB (be x n) (be y n) = decide (x % 256 ^ n < y % 256 ^ n)
  | 0 => by simp [be, lexB, Nat.mod_one]
  | n + 1 => by
    rw [be, be, lexB, lexB_be x y n]
    have ex : x % 256 ^ (n + 1) = x % 256 ^ n + 256 ^ n * (x / 256 ^ n % 256) := by rw [Nat.pow_succ, Nat.mod_mul]
    have ey : y % 256 ^ (n + 1) = y % 256 ^ n + 256 ^ n * (y / 256 ^ n % 256) := by rw [Nat.pow_succ, Nat.mod_mul]
    have hp : 0 < 256 ^ n := Nat.pow_pos (by omega)
    have hx := Nat.mod_lt x hp
    have hy := Nat.mod_lt y hp
    rw [ex, ey]
    generalize x % 256 ^ n = p at *
    generalize y % 256 ^ n = q at *
    generalize x / 256 ^ n % 256 = a at *
    generalize y / 256 ^ n % 256 = b at *
    generalize 256 ^ n = P at *
    by_cases h1 : a < b
    · rw [if_pos h1]
      have : P * (a + 1) ≤ P * b := Nat.mul_le_mul_left _ h1
      rw [Nat.mul_add, Nat.mul_one] at this
      exact (decide_eq_true (by omega)).symm
    · rw [if_neg h1]
      by_cases h2 : b < a
      · rw [if_pos h2]
        have : P * (b + 1) ≤ P * a := Nat.mul_le_mul_left _ h2
        rw [Nat.mul_add, Nat.mul_one] at this
        exact (decide_eq_false (by omega)).symm
      · have : a = b := by omega
        subst this
        rw [if_neg h2]
        exact decide_eq_decide.2 (by omega)
def chain : List Nat → Nat → Nat → Nat
  | [], k, _ => k
  | t :: r, k, x => if x < t then k else chain r (k + 1) x
theorem chain_ge : ∀ (ts : List Nat) (k x : Nat), k ≤ chain ts k x
  | [], _, _ => Nat.le_refl _
  | t :: r, k, x => by
    have := chain_ge r (k + 1) x
    unfold chain
    split <;> omega
theorem chain_mono {x y : Nat} (h : x ≤ y) : ∀ (ts : List Nat) (k : Nat), chain ts k x ≤ chain ts k y
  | [], _ => Nat.le_refl _
  | t :: r, k => by
    have h1 := chain_mono h r (k + 1)
    have h2 := chain_ge (t :: r) k y
    rw [chain]
    split
    · exact h2
    · rw [chain, if_neg (by omega)]
      exact h1
theorem size_mono {x y : Nat} (h : x ≤ y) : size x ≤ size y := chain_mono h [128, 16384, 2097152, 268435456, 34359738368, 4398046511104, 562949953421312, 72057594037927936] 1
theorem lenOf_mono {x y : Nat} (h : x ≤ y) : lenOf x ≤ lenOf y := chain_mono h [128, 192, 224, 240, 248, 252, 254, 255] 1
theorem lexB_vr {x y : Nat} (hx : x < 18446744073709551616) (hy : y < 18446744073709551616) : lexB (vr x) (vr y) = decide (x < y) := by
  have lx := (lenOf_vr x hx).1
  have ly := (lenOf_vr y hy).1
  rcases Nat.lt_trichotomy (size x) (size y) with h | h | h
  · have hxy : x < y := Nat.lt_of_not_le fun h2 => by have := size_mono h2; omega
    have hb : hd (size x) + x / 256 ^ (size x - 1) < hd (size y) + y / 256 ^ (size y - 1) := Nat.lt_of_not_le fun h2 => by have := lenOf_mono h2; omega
    rw [vr, vr, lexB, if_pos hb, decide_eq_true hxy]
  · rw [vr, vr, lexB, h, lexB_be]
    have dx := Nat.div_add_mod x (256 ^ (size y - 1))
    have dy := Nat.div_add_mod y (256 ^ (size y - 1))
    have hp : 0 < 256 ^ (size y - 1) := Nat.pow_pos (by omega)
    have mx := Nat.mod_lt x hp
    have my := Nat.mod_lt y hp
    generalize x / 256 ^ (size y - 1) = a at *
    generalize y / 256 ^ (size y - 1) = b at *
    generalize x % 256 ^ (size y - 1) = p at *
    generalize y % 256 ^ (size y - 1) = q at *
    generalize 256 ^ (size y - 1) = P at *
    by_cases h1 : a < b
    · rw [if_pos (by omega)]
      have : P * (a + 1) ≤ P * b := Nat.mul_le_mul_left _ h1
      rw [Nat.mul_add, Nat.mul_one] at this
      exact (decide_eq_true (by omega)).symm
    · rw [if_neg (by omega)]
      by_cases h2 : b < a
      · rw [if_pos (by omega)]
        have : P * (b + 1) ≤ P * a := Nat.mul_le_mul_left _ h2
        rw [Nat.mul_add, Nat.mul_one] at this
        exact (decide_eq_false (by omega)).symm
      · have : a = b := by omega
        subst this
        rw [if_neg (by omega)]
        exact decide_eq_decide.2 (by omega)
  · have hxy : y < x := Nat.lt_of_not_le fun h2 => by have := size_mono h2; omega
    have hb : hd (size y) + y / 256 ^ (size y - 1) < hd (size x) + x / 256 ^ (size x - 1) := Nat.lt_of_not_le fun h2 => by have := lenOf_mono h2; omega
    rw [vr, vr, lexB, if_neg (by omega), if_pos hb, decide_eq_false (by omega)]
theorem vr_inj {x y : Nat} (hx : x < 18446744073709551616) (hy : y < 18446744073709551616) (h : vr x = vr y) : x = y := by
  have h1 := few_vr 12 x hx []
  have h2 := few_vr 12 y hy []
  rw [h, h2] at h1
  simp only [Prod.mk.injEq] at h1
  exact h1.1.symm

theorem bytesLess_lex : ∀ l m : List UInt8, Op.bytesLess l m = lexB (l.map UInt8.toNat) (m.map UInt8.toNat)
  | l, [] => by cases l <;> rfl
  | [], _ :: _ => rfl
  | a :: x, b :: y => by
    have ih := bytesLess_lex x y
    rw [Op.bytesLess, List.map_cons, List.map_cons, lexB, ih]
    by_cases h1 : a.toNat < b.toNat
    · have : a < b := UInt8.lt_iff_toNat_lt.2 h1
      simp [h1, this]
    · have h1' : ¬ a < b := fun h => h1 (UInt8.lt_iff_toNat_lt.1 h)
      by_cases h2 : b.toNat < a.toNat
      · have : ¬ a = b := fun e => by rw [e] at h2; omega
        simp [h1, h1', h2, this]
      · have : a = b := UInt8.toNat_inj.1 (by omega)
        subst this
        simp
theorem bytesLess_bs (s t : ByteArray) : Op.bytesLess s.toList t.toList = lexB (bs s) (bs t) := by
  rw [ByteArray.toList_eq, ByteArray.toList_eq]
  exact bytesLess_lex _ _

end Cr
end Go.Proofs.YtjopjffecnflkaaDoor
