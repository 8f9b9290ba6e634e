/- Strings out of numbers: plain data, no program. -/
import Derived.Test.YtjopjffecnflkaaDoorMb
namespace Go.Proofs.YtjopjffecnflkaaDoor
namespace Cr

/-- Numbers as a string. -/
def str (l : List Nat) : ByteArray := ⟨(l.map UInt8.ofNat).toArray⟩
theorem bs_str {l : List Nat} (h : ∀ b ∈ l, b < 256) : bs (str l) = l := by
  unfold bs str
  simp only [List.map_map]
  rw [List.map_congr_left (g := id), List.map_id]
  intro b hb
  simp only [Function.comp, id]
  rw [UInt8.toNat_ofNat']
  exact Nat.mod_eq_of_lt (h b hb)
theorem str_bs (s : ByteArray) : str (bs s) = s := bs_inj (bs_str (bs_lt s))
theorem str_size (l : List Nat) : (str l).size = l.length := by
  show (List.map _ l).toArray.size = _
  simp
theorem str_append (l m : List Nat) : str (l ++ m) = str l ++ str m := by
  apply ByteArray.ext
  simp [str, ByteArray.data_append]
theorem str_of {s : ByteArray} {l : List Nat} (h : bs s = l) : s = str l := by rw [← h, str_bs]
theorem str_nil : str [] = { data := #[] } := rfl
/-- Are parts not too many, or too long? -/
def fewB (xs : List ByteArray) : Bool := xs.all (fun s => decide (s.size ≤ 300)) && decide (xs.length ≤ 30)
theorem fewB_size {xs : List ByteArray} (h : fewB xs = true) : ∀ s ∈ xs, s.size ≤ 300 := by
  simp only [fewB, Bool.and_eq_true, List.all_eq_true, decide_eq_true_eq] at h
  exact h.1
theorem fewB_len {xs : List ByteArray} (h : fewB xs = true) : xs.length ≤ 30 := by
  simp only [fewB, Bool.and_eq_true, decide_eq_true_eq] at h
  exact h.2
theorem jn_size : ∀ (xs : List ByteArray) (B : Nat), (∀ s ∈ xs, s.size ≤ B) → (jn xs).length ≤ B * xs.length
  | [], _, _ => by simp [jn]
  | s :: r, B, h => by
    have h1 := jn_size r B fun x hx => h x (by simp [hx])
    have h2 := h s (by simp)
    simp only [jn, List.length_append, bs_length, List.length_cons, Nat.mul_succ]
    omega
theorem fewB_jn {xs : List ByteArray} (h : fewB xs = true) (k : Nat) : (jn (xs.take k)).length ≤ 9000 := by
  have h1 := jn_size (xs.take k) 300 fun s hs => fewB_size h s (List.mem_of_mem_take hs)
  have h2 := fewB_len h
  have h3 : (xs.take k).length ≤ xs.length := List.length_take_le' ..
  omega
theorem not_few {xs : List ByteArray} {k : Nat} {s : ByteArray} (h : xs[k]? = some s) (hs : 300 < s.size) : fewB xs = false := by
  cases hf : fewB xs with
  | false => rfl
  | true => have := fewB_size hf s (List.mem_of_getElem? h); omega
theorem few_of {xs : List ByteArray} (h : ∀ (j : Nat) (s : ByteArray), xs[j]? = some s → s.size ≤ 300) : fewB xs = decide (xs.length ≤ 30) := by
  have : xs.all (fun s => decide (s.size ≤ 300)) = true := by
    rw [List.all_eq_true]
    intro s hs
    obtain ⟨j, hj⟩ := List.getElem?_of_mem hs
    simpa using h j s hj
  simp [fewB, this]

end Cr
end Go.Proofs.YtjopjffecnflkaaDoor
