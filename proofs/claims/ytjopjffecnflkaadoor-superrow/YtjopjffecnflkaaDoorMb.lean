/- The mathematics of the table of half bytes, of matrices and of keys: plain numbers, no program. -/
import Derived.Test.YtjopjffecnflkaaDoorMa
namespace Go.Proofs.YtjopjffecnflkaaDoor
namespace Cr

/-- The bytes of a string, as numbers. -/
def bs (s : ByteArray) : List Nat := s.data.toList.map UInt8.toNat
theorem bs_lt (s : ByteArray) : ∀ b ∈ bs s, b < 256 := by
  intro b hb
  simp only [bs, List.mem_map] at hb
  obtain ⟨u, _, rfl⟩ := hb
  exact u.toNat_lt
theorem bs_length (s : ByteArray) : (bs s).length = s.size := by rw [bs, List.length_map]; rfl
theorem bs_append (s t : ByteArray) : bs (s ++ t) = bs s ++ bs t := by simp [bs, ByteArray.data_append]
theorem bs_inj {s t : ByteArray} (h : bs s = bs t) : s = t := by
  apply ByteArray.ext
  apply Array.toList_inj.1
  exact (List.map_inj_right (fun a b h => UInt8.toNat_inj.1 h)).1 h
theorem bs_get (s : ByteArray) (i : Nat) (h : i < s.size) : (bs s)[i]? = some (s[i]'h).toNat := by
  have h' : i < s.data.size := h
  simp [bs, Array.getElem?_eq_getElem h']
  rfl
theorem bs_empty : bs ByteArray.empty = [] := rfl
/-- The half byte's table. -/
def tb : Nat → Nat
  | 0 => 0 | 1 => 274646895 | 2 => 549293790 | 3 => 820201905 | 4 => 1098587580 | 5 => 1361435347 | 6 => 1640403810 | 7 => 1905808397
  | 8 => 2197175160 | 9 => 2460548119 | 10 => 2722870694 | 11 => 2987750089 | 12 => 3280807620 | 13 => 3553878443 | 14 => 3811616794 | _ => 4084100981
theorem tb_st : ∀ i, i < 16 → tb i = stN 4 i := by decide
theorem tb_lt (i : Nat) : tb i < 4294967296 := by
  unfold tb
  split <;> decide
theorem split16 (x : Nat) : 16 * (x / 16) ^^^ x % 16 = x := by
  apply Nat.eq_of_testBit_eq
  intro i
  rw [Nat.testBit_xor, show 16 * (x / 16) = 2 ^ 4 * (x / 2 ^ 4) from rfl, show x % 16 = x % 2 ^ 4 from rfl, Nat.testBit_two_pow_mul, Nat.testBit_div_two_pow, Nat.testBit_mod_two_pow]
  by_cases hi : 4 ≤ i
  · simp [hi, show ¬ i < 4 by omega]
  · simp [hi, show i < 4 by omega]
/-- Half a byte goes at one step. -/
theorem half (x : Nat) : x / 16 ^^^ tb (x % 16) = stN 4 x := by
  have e1 : stN 4 (16 * (x / 16)) = x / 16 := stN_shift 4 (x / 16)
  have e2 : tb (x % 16) = stN 4 (x % 16) := tb_st _ (Nat.mod_lt _ (by omega))
  rw [e2]
  have e3 := stN_xor 4 (16 * (x / 16)) (x % 16)
  rw [split16, e1] at e3
  exact e3.symm
theorem byt_half (x b : Nat) : byt x b = stN 4 (stN 4 (x ^^^ b)) := by rw [byt_eq, show 8 = 4 + 4 from rfl, stN_add]
theorem reg_snoc (x : Nat) (l : List Nat) (b : Nat) : reg x (l ++ [b]) = byt (reg x l) b := by rw [reg_append]; rfl
theorem stN_succ' (n x : Nat) : stN (n + 1) x = st (stN n x) := by rw [stN_add]; rfl

/-- What a matrix makes of a register: the rows of its bits, xor-ed. -/
def app (m : Nat → Nat) (x : Nat) : Nat → Nat
  | 0 => 0
  | n + 1 => if x / 2 ^ n % 2 = 1 then app m x n ^^^ m n else app m x n
theorem app_lt {m : Nat → Nat} (hm : ∀ i, m i < 2 ^ 32) (x : Nat) : ∀ n, app m x n < 2 ^ 32
  | 0 => by simp [app]
  | n + 1 => by
    unfold app
    split
    · exact Nat.xor_lt_two_pow (app_lt hm x n) (hm n)
    · exact app_lt hm x n
theorem low_bits (x n : Nat) : x % 2 ^ (n + 1) = if x / 2 ^ n % 2 = 1 then x % 2 ^ n ^^^ 2 ^ n else x % 2 ^ n := by
  apply Nat.eq_of_testBit_eq
  intro i
  have hb : (x / 2 ^ n % 2 = 1) ↔ x.testBit n = true := by rw [Nat.testBit_eq_decide_div_mod_eq]; simp
  by_cases h : x.testBit n = true
  · rw [if_pos (hb.2 h), Nat.testBit_xor, Nat.testBit_mod_two_pow, Nat.testBit_mod_two_pow, Nat.testBit_two_pow]
    rcases Nat.lt_trichotomy i n with hi | hi | hi
    · simp [hi, show i < n + 1 by omega, show ¬ n = i by omega]
    · subst hi; simp [h]
    · simp [show ¬ i < n + 1 by omega, show ¬ i < n by omega, show ¬ n = i by omega]
  · rw [if_neg (fun e => h (hb.1 e)), Nat.testBit_mod_two_pow, Nat.testBit_mod_two_pow]
    rcases Nat.lt_trichotomy i n with hi | hi | hi
    · simp [hi, show i < n + 1 by omega]
    · subst hi; simp [h]
    · simp [show ¬ i < n + 1 by omega, show ¬ i < n by omega]
/-- A matrix whose row i is what k steps make of bit i does k steps. -/
theorem app_steps (k x : Nat) : ∀ n, app (fun i => stN k (2 ^ i)) x n = stN k (x % 2 ^ n)
  | 0 => by rw [Nat.pow_zero, Nat.mod_one, stN_zero]; rfl
  | n + 1 => by
    rw [low_bits]
    have ih := app_steps k x n
    unfold app
    split
    · rw [ih, stN_xor]
    · rw [ih]
theorem app_all {k x : Nat} (hx : x < 2 ^ 32) : app (fun i => stN k (2 ^ i)) x 32 = stN k x := by rw [app_steps, Nat.mod_eq_of_lt hx]
theorem app_congr {m m' : Nat → Nat} (x : Nat) : ∀ n, (∀ i, i < n → m i = m' i) → app m x n = app m' x n
  | 0, _ => rfl
  | n + 1, h => by
    have ih := app_congr x n fun i hi => h i (by omega)
    unfold app
    rw [ih, h n (by omega)]

/-- A key, a byte on. -/
def key1 (k b : Nat) : Nat := ((k ^^^ b) * 1099511628211) % 18446744073709551616
def keyB (k : Nat) : List Nat → Nat
  | [] => k
  | b :: r => keyB (key1 k b) r
theorem keyB_append : ∀ (l m : List Nat) (k : Nat), keyB k (l ++ m) = keyB (keyB k l) m
  | [], _, _ => rfl
  | b :: r, m, k => keyB_append r m (key1 k b)
theorem key1_lt (k b : Nat) : key1 k b < 18446744073709551616 := Nat.mod_lt _ (by omega)
theorem keyB_lt : ∀ (l : List Nat) {k : Nat}, k < 18446744073709551616 → keyB k l < 18446744073709551616
  | [], _, h => h
  | b :: r, k, _ => keyB_lt r (key1_lt k b)
/-- The first n bytes of a number, the lowest one first. -/
def low (x : Nat) (n : Nat) : List Nat := (List.range n).map fun i => x / 256 ^ i % 256
theorem low_succ (x n : Nat) : low x (n + 1) = low x n ++ [x / 256 ^ n % 256] := by simp [low, List.range_succ]
def keyP (k : Nat) (s : ByteArray) : Nat := keyB (keyB k (low s.size 8)) (bs s)
def keyL (k : Nat) : List ByteArray → Nat
  | [] => k
  | s :: r => keyL (keyP k s) r
theorem keyL_append : ∀ (l m : List ByteArray) (k : Nat), keyL k (l ++ m) = keyL (keyL k l) m
  | [], _, _ => rfl
  | b :: r, m, k => keyL_append r m (keyP k b)
theorem keyP_lt {k : Nat} (h : k < 18446744073709551616) (s : ByteArray) : keyP k s < 18446744073709551616 := keyB_lt _ (keyB_lt _ h)
theorem keyL_lt : ∀ (l : List ByteArray) {k : Nat}, k < 18446744073709551616 → keyL k l < 18446744073709551616
  | [], _, h => h
  | s :: r, _, h => keyL_lt r (keyP_lt h s)
/-- The bytes of parts, one behind the other. -/
def jn : List ByteArray → List Nat
  | [] => []
  | s :: r => bs s ++ jn r
theorem jn_append : ∀ l m, jn (l ++ m) = jn l ++ jn m
  | [], _ => rfl
  | s :: r, m => by simp [jn, jn_append r m]
theorem jn_lt : ∀ l, ∀ b ∈ jn l, b < 256
  | [], b, h => by simp [jn] at h
  | s :: r, b, h => by
    simp only [jn, List.mem_append] at h
    rcases h with h | h
    · exact bs_lt s b h
    · exact jn_lt r b h
theorem snoc_take {α : Type} (l : List α) (i : Nat) (x : α) (h : l[i]? = some x) : l.take (i + 1) = l.take i ++ [x] := by
  rw [List.take_add_one, h]; rfl

end Cr
end Go.Proofs.YtjopjffecnflkaaDoor
