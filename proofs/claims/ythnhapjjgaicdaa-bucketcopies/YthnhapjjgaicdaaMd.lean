/- Names that begin with a text stand together; no program. -/
import Derived.Test.YthnhapjjgaicdaaMc
namespace Go.Proofs.Ythnhapjjgaicdaa
namespace Wi

theorem pre_ge : ∀ p a : List UInt8, p <+: a → ¬ Lib.compareBytes a p < 0
  | [], [], _ => by simp [Lib.compareBytes]
  | [], _ :: _, _ => by simp [Lib.compareBytes]
  | _ :: _, [], h => by simp at h
  | x :: ps, y :: as, h => by
    obtain ⟨rfl, h'⟩ := List.cons_prefix_cons.1 h
    unfold Lib.compareBytes
    rw [if_neg (UInt8.lt_irrefl _), if_neg (UInt8.lt_irrefl _)]
    exact pre_ge ps as h'
theorem pre_over : ∀ p a b : List UInt8, ¬ Lib.compareBytes a p < 0 → ¬ p <+: a → Lib.compareBytes a b < 0 → ¬ p <+: b
  | [], a, _, _, h, _ => absurd (List.nil_prefix) h
  | _ :: _, [], _, h, _, _ => by simp [Lib.compareBytes] at h
  | _ :: _, _ :: _, [], _, _, h => by simp [Lib.compareBytes] at h
  | x :: ps, y :: as, z :: bs, h1, h2, h3 => by
    intro hp
    obtain ⟨rfl, hp'⟩ := List.cons_prefix_cons.1 hp
    unfold Lib.compareBytes at h1 h3
    by_cases hlt : y < x
    · rw [if_pos hlt] at h1
      omega
    · rw [if_neg hlt] at h1 h3
      by_cases hgt : x < y
      · rw [if_pos hgt] at h3
        omega
      · rw [if_neg hgt] at h1 h3
        obtain rfl : y = x := UInt8.le_antisymm (UInt8.not_lt.1 hgt) (UInt8.not_lt.1 hlt)
        exact pre_over ps as bs h1 (fun h => h2 (List.cons_prefix_cons.2 ⟨rfl, h⟩)) h3 hp'
/-- Does a name begin so? -/
def begins (s p : ByteArray) : Bool := decide (p.data.toList <+: s.data.toList)
theorem begins_ge {s p : ByteArray} (h : begins s p = true) : ¬ cmpB s p < 0 := pre_ge _ _ (of_decide_eq_true h)
theorem begins_over {s p t : ByteArray} (h1 : ¬ cmpB s p < 0) (h2 : begins s p = false) (h3 : cmpB s t < 0) : begins t p = false := decide_eq_false (pre_over _ _ _ h1 (of_decide_eq_false h2) h3)
theorem begins_run (p : ByteArray) : ∀ l : List Ob, Rise l → (l.drop (place l p)).takeWhile (fun o => begins o.1 p) = l.filter fun o => begins o.1 p
  | [], _ => rfl
  | x :: r, h => by
    have hr : Rise r := (List.pairwise_cons.1 h).2
    have hx := (List.pairwise_cons.1 h).1
    have ih := begins_run p r hr
    by_cases hlt : cmpB x.1 p < 0
    · have e : place (x :: r) p = place r p + 1 := by simp [place, hlt]
      have hb : begins x.1 p = false := by
        cases hb : begins x.1 p with
        | true => exact absurd hlt (begins_ge hb)
        | false => rfl
      rw [e, List.drop_succ_cons, ih, List.filter_cons, hb]
      rfl
    · have e : place (x :: r) p = 0 := by simp [place, hlt]
      rw [e, List.drop_zero, List.takeWhile_cons, List.filter_cons]
      cases hb : begins x.1 p with
      | true =>
        have e2 : place r p = 0 := by
          cases r with
          | nil => rfl
          | cons y t =>
            have hy := hx y (by simp)
            have : ¬ cmpB y.1 p < 0 := fun h2 => hlt (cmpB_trans hy h2)
            simp [place, this]
        rw [e2, List.drop_zero] at ih
        simp only [if_true]
        rw [ih]
      | false =>
        have : r.filter (fun o => begins o.1 p) = [] := by
          rw [List.filter_eq_nil_iff]
          intro y hy
          rw [begins_over hlt hb (hx y hy)]
          simp
        simp [this]
/-- The names that begin so. -/
def namesOf (l : List Ob) (p : ByteArray) : List ByteArray := (l.filter fun o => begins o.1 p).map (·.1)
theorem namesOf_all (l : List Ob) : namesOf l { data := #[] } = l.map (·.1) := by
  have : ∀ o ∈ l, begins o.1 { data := #[] } = true := fun o _ => by simp [begins]
  rw [namesOf, List.filter_eq_self.2 this]
theorem namesOf_length (l : List Ob) (p : ByteArray) : (namesOf l p).length ≤ l.length := by
  rw [namesOf, List.length_map]
  exact List.length_filter_le _ _

end Wi
end Go.Proofs.Ythnhapjjgaicdaa
