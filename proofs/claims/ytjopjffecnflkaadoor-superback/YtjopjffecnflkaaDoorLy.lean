/- What turned bytes come to: plain numbers and strings, no program. -/
import Derived.Test.YtjopjffecnflkaaDoorLx
namespace Go.Proofs.YtjopjffecnflkaaDoor
namespace Cr

/-- Bytes of which k, from place p on, are turned. -/
def turnd (l : List Nat) (t : Nat → Nat) (p k : Nat) : Nat → Nat := fun i => if p ≤ i ∧ i < p + k then l.getD i 0 ^^^ t (i - p) else l.getD i 0
theorem turnd_zero (l : List Nat) (t : Nat → Nat) (p : Nat) : turnd l t p 0 = fun i => l.getD i 0 := by
  funext i
  unfold turnd
  rw [if_neg (by omega)]
theorem turnd_step (l : List Nat) (t : Nat → Nat) (p k : Nat) : (fun i => if i = p + k then turnd l t p k (p + k) ^^^ t k else turnd l t p k i) = turnd l t p (k + 1) := by
  funext i
  unfold turnd
  by_cases h : i = p + k
  · subst h
    rw [if_pos rfl, if_neg (by omega), if_pos (by omega), Nat.add_sub_cancel_left]
  · rw [if_neg h]
    by_cases h2 : p ≤ i ∧ i < p + k
    · rw [if_pos h2, if_pos (by omega)]
    · rw [if_neg h2, if_neg (by omega)]
theorem turnd_list (l : List Nat) (t : Nat → Nat) (p k : Nat) (h : p + k ≤ l.length) :
    (List.range l.length).map (turnd l t p k) = l.take p ++ (List.zipWith (· ^^^ ·) ((l.drop p).take k) ((List.range k).map t) ++ l.drop (p + k)) := by
  apply List.ext_getElem?
  intro i
  by_cases hi : i < l.length
  · have e0 : l[i]? = some l[i] := List.getElem?_eq_getElem hi
    have e1 : ((List.range l.length).map (turnd l t p k))[i]? = some (turnd l t p k i) := by simp [hi]
    rw [e1]
    unfold turnd
    rw [List.getD_eq_getElem?_getD, e0, Option.getD_some]
    by_cases h1 : i < p
    · rw [if_neg (by omega), List.getElem?_append_left (by simp; omega), List.getElem?_take, if_pos h1, e0]
    · rw [List.getElem?_append_right (by simp; omega)]
      have lt : (l.take p).length = p := by simp; omega
      rw [lt]
      by_cases h2 : i < p + k
      · have hz : (List.zipWith (· ^^^ ·) ((l.drop p).take k) ((List.range k).map t)).length = k := by simp; omega
        rw [if_pos ⟨by omega, h2⟩, List.getElem?_append_left (by rw [hz]; omega), List.getElem?_zipWith]
        have e2 : ((l.drop p).take k)[i - p]? = some l[i] := by rw [List.getElem?_take, if_pos (by omega), List.getElem?_drop, show p + (i - p) = i by omega, e0]
        have e3 : ((List.range k).map t)[i - p]? = some (t (i - p)) := by rw [List.getElem?_map, List.getElem?_range (by omega)]; rfl
        rw [e2, e3]
      · have hz : (List.zipWith (· ^^^ ·) ((l.drop p).take k) ((List.range k).map t)).length = k := by simp; omega
        rw [if_neg (by omega), List.getElem?_append_right (by rw [hz]; omega), hz, List.getElem?_drop, show p + k + (i - p - k) = i by omega, e0]
  · rw [List.getElem?_eq_none (by simp; omega), List.getElem?_eq_none (by simp; omega)]
/-- Is one of the first k turns none? -/
def tn (t : Nat → Nat) (k : Nat) : Bool := (List.range k).any fun j => (t j : Int) != 0
theorem tn_succ (t : Nat → Nat) (k : Nat) : tn t (k + 1) = (tn t k || ((t k : Int) != 0)) := by simp [tn, List.range_succ, List.any_append]
theorem word_ne {l : List Nat} {x : Nat} (h : x ∈ l) (hx : x ≠ 0) : word l ≠ 0 := by
  induction l with
  | nil => simp at h
  | cons b r ih =>
    rw [word_cons]
    simp only [List.mem_cons] at h
    rcases h with h | h
    · omega
    · have := ih h
      omega
theorem tn_word {t : Nat → Nat} {k : Nat} (h : tn t k = true) : word ((List.range k).map t) ≠ 0 := by
  simp only [tn, List.any_eq_true, List.mem_range] at h
  obtain ⟨j, hj, hne⟩ := h
  refine word_ne (x := t j) (List.mem_map_of_mem (List.mem_range.2 hj)) ?_
  intro e
  rw [e] at hne
  simp at hne
theorem tn_false {t : Nat → Nat} {k : Nat} (h : tn t k = false) : ∀ j, j < k → t j = 0 := by
  intro j hj
  simp only [tn, List.any_eq_false, List.mem_range] at h
  have := h j hj
  simpa using this
theorem turnd_none {l : List Nat} {t : Nat → Nat} {p k : Nat} (h : tn t k = false) : (List.range l.length).map (turnd l t p k) = l := by
  apply List.ext_getElem?
  intro i
  by_cases hi : i < l.length
  · simp only [List.getElem?_map, List.getElem?_range hi, Option.map_some]
    unfold turnd
    rw [List.getD_eq_getElem?_getD, List.getElem?_eq_getElem hi, Option.getD_some]
    split
    · rw [tn_false h _ (by omega), Nat.xor_zero]
    · rfl
  · rw [List.getElem?_eq_none (by simp; omega), List.getElem?_eq_none (by omega)]
theorem turnd_reg {l : List Nat} {t : Nat → Nat} {p k : Nat} (hl : ∀ b ∈ l, b < 256) (ht : ∀ j, t j < 256) (hpk : p + k ≤ l.length) (hk : k ≤ 4) (h : tn t k = true) (I : Nat) :
    reg I ((List.range l.length).map (turnd l t p k)) ≠ reg I l := by
  rw [turnd_list l t p k hpk]
  have e : l = l.take p ++ ((l.drop p).take k ++ l.drop (p + k)) := by
    rw [← List.drop_drop, List.take_append_drop, List.take_append_drop]
  have := reg_turned (l := (l.drop p).take k) (t := (List.range k).map t) (x := reg I (l.take p)) (by
      intro b hb
      simp only [List.mem_map] at hb
      obtain ⟨j, _, rfl⟩ := hb
      exact ht j) (by simp; omega) (by simpa using hk) (tn_word h) (l.drop (p + k)) (fun b hb => hl b (List.mem_of_mem_drop hb))
  rw [reg_append]
  intro he
  apply this
  rw [he]
  conv => lhs; rw [e, reg_append]
theorem word_four_list {l : List Nat} (h : l.length = 4) (hl : ∀ b ∈ l, b < 256) : four (word l) = l := by
  match l, h with
  | [a, b, c, d], _ =>
    have h1 := hl a (by simp)
    have h2 := hl b (by simp)
    have h3 := hl c (by simp)
    have h4 := hl d (by simp)
    simp only [four, word]
    have e1 : (a + 256 * (b + 256 * (c + 256 * (d + 256 * 0)))) % 256 = a := by omega
    have e2 : (a + 256 * (b + 256 * (c + 256 * (d + 256 * 0)))) / 256 % 256 = b := by omega
    have e3 : (a + 256 * (b + 256 * (c + 256 * (d + 256 * 0)))) / 65536 % 256 = c := by omega
    have e4 : (a + 256 * (b + 256 * (c + 256 * (d + 256 * 0)))) / 16777216 % 256 = d := by omega
    rw [e1, e2, e3, e4]
/-- Bytes are sealed just if the register ends at one number. -/
theorem sealed_iff {P Q : List Nat} (hP : ∀ b ∈ P, b < 256) (hQ : ∀ b ∈ Q, b < 256) (h4 : Q.length = 4) : Q = four (more 0 P) ↔ reg (flip32 0) (P ++ Q) = stN 32 4294967295 := by
  have hr := reg_lt P (flip32_lt 0) hP
  have hw : word Q < 2 ^ 32 := by
    have := word_lt Q hQ
    rwa [h4] at this
  have h := reg_sealed hr hw
  rw [word_four_list h4 hQ] at h
  rw [reg_append, h]
  constructor
  · intro e
    have := congrArg word e
    rwa [word_four (more_lt 0 P)] at this
  · intro e
    rw [← word_four_list h4 hQ, e]
    rfl

end Cr
end Go.Proofs.YtjopjffecnflkaaDoor
