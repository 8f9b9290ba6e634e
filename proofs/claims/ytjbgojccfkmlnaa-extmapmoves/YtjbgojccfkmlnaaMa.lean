/- Bytes and strings as lists of numbers; no program. -/
import Derived.Laws.Strings
import Derived.Laws.BitsAllLaws
namespace Go.Proofs.Ytjbgojccfkmlnaa
namespace Wi

/-- The bytes of a string, as numbers. -/
def bs (s : ByteArray) : List Nat := s.data.toList.map UInt8.toNat
theorem bs_lt (s : ByteArray) : ∀ b ∈ bs s, b < 256 := by
  intro b hb
  simp only [bs, List.mem_map] at hb
  obtain ⟨u, _, rfl⟩ := hb
  exact u.toNat_lt
theorem bs_length (s : ByteArray) : (bs s).length = s.size := by rw [bs, List.length_map]; rfl
theorem bs_append (s t : ByteArray) : bs (s ++ t) = bs s ++ bs t := by simp [bs, ByteArray.data_append]
theorem bs_inj {s t : ByteArray} (h : bs s = bs t) : s = t := by
  apply ByteArray.ext
  apply Array.toList_inj.1
  exact (List.map_inj_right (fun a b h => UInt8.toNat_inj.1 h)).1 h
theorem bs_get (s : ByteArray) (i : Nat) (h : i < s.size) : (bs s)[i]? = some (s[i]'h).toNat := by
  have h' : i < s.data.size := h
  simp [bs, Array.getElem?_eq_getElem h']
  rfl
theorem bs_empty : bs ByteArray.empty = [] := rfl
/-- The bytes of parts, one behind the other. -/
def jn : List ByteArray → List Nat
  | [] => []
  | s :: r => bs s ++ jn r
theorem jn_append : ∀ l m, jn (l ++ m) = jn l ++ jn m
  | [], _ => rfl
  | s :: r, m => by simp [jn, jn_append r m]
theorem jn_lt : ∀ l, ∀ b ∈ jn l, b < 256
  | [], b, h => by simp [jn] at h
  | s :: r, b, h => by
    simp only [jn, List.mem_append] at h
    rcases h with h | h
    · exact bs_lt s b h
    · exact jn_lt r b h
theorem snoc_take {α : Type} (l : List α) (i : Nat) (x : α) (h : l[i]? = some x) : l.take (i + 1) = l.take i ++ [x] := by
  rw [List.take_add_one, h]; rfl

/-- Numbers as a string. -/
def str (l : List Nat) : ByteArray := ⟨(l.map UInt8.ofNat).toArray⟩
theorem bs_str {l : List Nat} (h : ∀ b ∈ l, b < 256) : bs (str l) = l := by
  unfold bs str
  simp only [List.map_map]
  rw [List.map_congr_left (g := id), List.map_id]
  intro b hb
  simp only [Function.comp, id]
  rw [UInt8.toNat_ofNat']
  exact Nat.mod_eq_of_lt (h b hb)
theorem str_bs (s : ByteArray) : str (bs s) = s := bs_inj (bs_str (bs_lt s))
theorem str_size (l : List Nat) : (str l).size = l.length := by
  show (List.map _ l).toArray.size = _
  simp
theorem str_append (l m : List Nat) : str (l ++ m) = str l ++ str m := by
  apply ByteArray.ext
  simp [str, ByteArray.data_append]
theorem str_of {s : ByteArray} {l : List Nat} (h : bs s = l) : s = str l := by rw [← h, str_bs]
theorem str_nil : str [] = { data := #[] } := rfl
theorem jn_take_succ {xs : List ByteArray} {k : Nat} {s : ByteArray} (h : xs[k]? = some s) : jn (xs.take (k + 1)) = jn (xs.take k) ++ bs s := by
  rw [snoc_take _ _ _ h, jn_append]; simp [jn]
theorem bs_take_succ {s : ByteArray} {j : Nat} (h : j < s.size) : (bs s).take (j + 1) = (bs s).take j ++ [(s[j]'h).toNat] := snoc_take _ _ _ (bs_get s j h)
theorem bs_take_all (s : ByteArray) {j : Nat} (h : ¬ j < s.size) : (bs s).take j = bs s := List.take_of_length_le (by rw [bs_length]; omega)


theorem beq_lists {a b : ByteArray} (h : a = b) : (a.toList == b.toList) = true := by rw [h]; simp
theorem bne_lists {a b : ByteArray} (h : ¬ a = b) : (a.toList == b.toList) = false := by
  rw [beq_eq_false_iff_ne]
  intro e
  rw [ByteArray.toList_eq, ByteArray.toList_eq] at e
  exact h (ByteArray.ext (Array.toList_inj.1 e))
theorem cut_data (s : ByteArray) (n : Nat) (hn : n ≤ s.size) : bs s = bs (s.extract 0 n) ++ bs (s.extract n s.size) := by
  simp only [bs, ByteArray.data_extract, ← List.map_append]
  congr 1
  rw [Array.toList_extract, Array.toList_extract]
  have hl : s.data.toList.length = s.size := by rw [Array.length_toList]; rfl
  have e1 : s.data.toList.extract 0 n = s.data.toList.take n := by rw [List.extract_eq_take_drop, List.drop_zero, Nat.sub_zero]
  have e2 : s.data.toList.extract n s.size = s.data.toList.drop n := by
    rw [List.extract_eq_take_drop]
    exact List.take_of_length_le (by rw [List.length_drop]; omega)
  rw [e1, e2, List.take_append_drop]
theorem cut_eq {s : ByteArray} {n : Nat} {F : ByteArray} (hn : n ≤ s.size) : s.extract 0 n ++ F = s ↔ F = s.extract n s.size := by
  have h := cut_data s n hn
  constructor
  · intro e
    have e2 := congrArg bs e
    rw [bs_append, h] at e2
    exact bs_inj (List.append_cancel_left e2)
  · intro e
    apply bs_inj
    rw [bs_append, e, ← h]
theorem str_take (l : List Nat) (n : Nat) : (str l).extract 0 n = str (l.take n) := by
  apply ByteArray.ext
  simp [str, ByteArray.data_extract, List.map_take]
theorem str_cut (l : List Nat) (i j : Nat) : (str l).extract i j = str ((l.drop i).take (j - i)) := by
  apply ByteArray.ext
  simp [str, ByteArray.data_extract, List.map_take, List.map_drop, List.take_drop]
theorem bs_cut (s : ByteArray) (i j : Nat) : bs (s.extract i j) = ((bs s).drop i).take (j - i) := by
  unfold bs
  simp [ByteArray.data_extract, List.map_take, List.map_drop, List.take_drop]
theorem cut_str (s : ByteArray) (i j : Nat) : s.extract i j = str (((bs s).drop i).take (j - i)) := by
  rw [← bs_cut, str_bs]

end Wi
end Go.Proofs.Ytjbgojccfkmlnaa
