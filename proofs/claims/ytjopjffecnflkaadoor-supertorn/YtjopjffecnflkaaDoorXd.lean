/- A part of the proofs about package wire: what its functions answer, call by call. -/
import Derived.Test.YtjopjffecnflkaaDoorXc
import Derived.OwnWalk
namespace Go.Proofs.YtjopjffecnflkaaDoor
open Go.RowKit
namespace Cr

theorem same_b {P : Program} {f : FuncId} {args : Array Value} {w : World} {v : Value} (h : Calls P f args w fun e w' => e = .returned v ∧ w' = w) : Calls P f args w fun e w' => e = .returned v ∧ Below w.heap.size w w' :=
  h.mono fun _ _ ⟨h1, h2⟩ => ⟨h1, by rw [h2]; exact Below.refl _ _⟩
theorem bs_extract (s : ByteArray) {a b : Nat} : bs (s.extract a b) = ((bs s).drop a).take (b - a) := by
  simp only [bs, ByteArray.data_extract, ← List.map_drop, ← List.map_take]
  congr 1
  rw [Array.toList_extract, List.extract_eq_take_drop]
theorem extract_size_le (s : ByteArray) (a b : Nat) : (s.extract a b).size ≤ s.size := by
  rw [ByteArray.size_extract]
  omega
/-- The value that a first byte and those behind it tell. -/
def fv (b : Nat) (r : List Nat) : Nat := (b - hd (lenOf b)) * 256 ^ (lenOf b - 1) + num (r.take (lenOf b - 1))
theorem fv_size {b : Nat} {r : List Nat} (hb : b < 256) (hr : ∀ c ∈ r, c < 256) : size (fv b r) ≤ lenOf b ∧ fv b r < 18446744073709551616 := by
  have hnl := num_lt (r.take (lenOf b - 1)) fun c hc => hr c (List.mem_of_mem_take hc)
  have hle : (r.take (lenOf b - 1)).length ≤ lenOf b - 1 := by rw [List.length_take]; omega
  have hn2 : num (r.take (lenOf b - 1)) < 256 ^ (lenOf b - 1) := Nat.lt_of_lt_of_le hnl (Nat.pow_le_pow_right (by omega) hle)
  have hlt : fv b r < 18446744073709551616 := by
    unfold fv
    generalize num (r.take (lenOf b - 1)) = m at *
    rcases lenOf_cases b hb with ⟨h, h1⟩ | ⟨h, h0, h1⟩ | ⟨h, h0, h1⟩ | ⟨h, h0, h1⟩ | ⟨h, h0, h1⟩ | ⟨h, h0, h1⟩ | ⟨h, h0, h1⟩ | ⟨h, h1⟩ | ⟨h, h1⟩ <;> rw [h] at hn2 ⊢ <;> simp only [hd, Nat.reduceSub, Nat.reducePow] at hn2 ⊢ <;> omega
  refine ⟨?_, hlt⟩
  have hc := size_cases _ hlt
  unfold fv at hc ⊢
  generalize num (r.take (lenOf b - 1)) = m at *
  rcases lenOf_cases b hb with ⟨h, h1⟩ | ⟨h, h0, h1⟩ | ⟨h, h0, h1⟩ | ⟨h, h0, h1⟩ | ⟨h, h0, h1⟩ | ⟨h, h0, h1⟩ | ⟨h, h0, h1⟩ | ⟨h, h1⟩ | ⟨h, h1⟩ <;> rw [h] at hn2 hc ⊢ <;> simp only [hd, Nat.reduceSub, Nat.reducePow] at hn2 hc ⊢ <;> omega
theorem few_short {F : Int} {b : Nat} {r : List Nat} (h : r.length + 1 < lenOf b) : few F (b :: r) = (0, 0, 10) := by rw [few, if_pos h]
theorem few_form {F : Int} {b : Nat} {r : List Nat} (h : ¬ r.length + 1 < lenOf b) (h2 : size (fv b r) ≠ lenOf b) : few F (b :: r) = (0, 0, F) := by
  rw [few, if_neg h, if_pos]
  exact h2
theorem few_ok {F : Int} {b : Nat} {r : List Nat} (h : ¬ r.length + 1 < lenOf b) (h2 : size (fv b r) = lenOf b) : few F (b :: r) = (fv b r, lenOf b, 0) := by
  rw [few, if_neg h, if_neg]
  · rfl
  · exact fun h3 => h3 h2
theorem jo_fv {b : Nat} {r : List Nat} (hb : b < 256) (hr : ∀ c ∈ r, c < 256) (hl : ¬ r.length + 1 < lenOf b) : jo (b - hd (lenOf b)) (r.take (lenOf b - 1)) = fv b r := by
  have h := (fv_size hb hr).2
  have e : (r.take (lenOf b - 1)).length = lenOf b - 1 := by rw [List.length_take]; omega
  unfold fv at h ⊢
  rw [jo_num, e]
  rw [e]
  exact h
theorem jo_zero {l : List Nat} (hl : ∀ b ∈ l, b < 256) (h8 : l.length ≤ 8) : jo 0 l = num l := by
  have h1 := num_lt l hl
  have h2 : 256 ^ l.length ≤ 256 ^ 8 := Nat.pow_le_pow_right (by omega) h8
  rw [jo_num, Nat.zero_mul, Nat.zero_add]
  rw [Nat.zero_mul, Nat.zero_add]
  exact Nat.lt_of_lt_of_le h1 h2
theorem bs_cons {s : ByteArray} (h : 0 < s.size) : ∃ r, bs s = (s[0]'h).toNat :: r ∧ r.length + 1 = s.size ∧ (∀ c ∈ r, c < 256) ∧ (s[0]'h).toNat < 256 := by
  have h0 := bs_get s 0 h
  have hl := bs_length s
  have hlt := bs_lt s
  cases hb : bs s with
  | nil => rw [hb] at h0; simp at h0
  | cons x r =>
    rw [hb] at h0 hl hlt
    simp at h0
    subst h0
    exact ⟨r, rfl, by simpa using hl, fun c hc => hlt c (by simp [hc]), hlt _ (by simp)⟩
theorem empty_of {s : ByteArray} (h : s.size = 0) : s = ⟨#[]⟩ := by
  apply bs_inj
  have := bs_length s
  rw [h] at this
  rw [List.eq_nil_of_length_eq_zero this]
  rfl
theorem isEmpty_no {s : ByteArray} (h : 0 < s.size) : s.toList.isEmpty = false := by
  rw [ByteArray.toList_eq]
  have : s.data.toList.length = s.size := by rw [Array.length_toList]; rfl
  cases hd : s.data.toList with
  | nil => rw [hd] at this; simp at this; omega
  | cons a r => rfl
theorem not_empty {s : ByteArray} (h : 0 < s.size) : ¬ s = ⟨#[]⟩ := by
  intro e
  rw [e] at h
  exact absurd h (by decide)
theorem xor_fin : ∀ b : Fin 256, bits .xor .u8 255 ((b.val : Nat) : Int) = 255 - ((b.val : Nat) : Int) := by decide +kernel
theorem xor255 {b : Nat} (h : b < 256) : bits .xor .u8 255 (b : Int) = 255 - (b : Int) := xor_fin ⟨b, h⟩
theorem ret3 {k k2 k3 : IntKind} {a a2 b b2 c c2 : Int} (h : a = a2) (h2 : b = b2) (h3 : c = c2) : Ending.returned (.tuple #[.int k a, .int k2 b, .int k3 c]) = .returned (.tuple #[.int k a2, .int k2 b2, .int k3 c2]) := by rw [h, h2, h3]
end Cr
end Go.Proofs.YtjopjffecnflkaaDoor
