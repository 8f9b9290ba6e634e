/- Where in extents that rise one begins, what is ahead of a sector and what from it on; no program. -/
import Derived.Test.YtjbgojccfkmlnaaMc
namespace Go.Proofs.Ytjbgojccfkmlnaa
namespace Wi

/-- How many stand ahead of the first one of which p holds. -/
def idx (p : Xt → Bool) : List Xt → Nat
  | [] => 0
  | x :: r => if p x then 0 else idx p r + 1
theorem idx_le (p : Xt → Bool) : ∀ l, idx p l ≤ l.length
  | [] => Nat.le_refl _
  | x :: r => by
    unfold idx
    split
    · exact Nat.zero_le _
    · exact Nat.succ_le_succ (idx_le p r)
theorem idx_no {p : Xt → Bool} : ∀ {l : List Xt} {i : Nat} {x : Xt}, i < idx p l → l[i]? = some x → p x = false
  | [], _, _, h, _ => by simp [idx] at h
  | y :: r, i, x, h, hx => by
    unfold idx at h
    split at h
    · omega
    · rename_i hy
      cases i with
      | zero =>
        simp at hx
        subst hx
        simpa using hy
      | succ i => exact idx_no (l := r) (i := i) (by omega) (by simpa using hx)
theorem idx_yes {p : Xt → Bool} (hm : ∀ x y : Xt, 1 ≤ x.len → 1 ≤ y.len → x.fin ≤ y.at_ → p x = true → p y = true) : ∀ {l : List Xt}, Ris l → ∀ {i : Nat} {x : Xt}, idx p l ≤ i → l[i]? = some x → p x = true
  | [], _, _, _, _, h => by simp at h
  | [y], hr, i, x, h, hx => by
    obtain rfl : i = 0 := by have := (List.getElem?_eq_some_iff.1 hx).1; simp at this; omega
    simp at hx
    subst hx
    unfold idx at h
    split at h
    · assumption
    · omega
  | y :: z :: r, hr, i, x, h, hx => by
    unfold idx at h
    split at h
    · rename_i hy
      cases i with
      | zero =>
        simp at hx
        subst hx
        exact hy
      | succ i =>
        have hz : p z = true := hm y z hr.1 hr.2.2.pos hr.2.1 hy
        refine idx_yes hm (l := z :: r) hr.2.2 (i := i) (x := x) ?_ (by simpa using hx)
        unfold idx
        rw [if_pos hz]
        exact Nat.zero_le _
    · cases i with
      | zero => omega
      | succ i => exact idx_yes hm (l := z :: r) hr.2.2 (i := i) (x := x) (by omega) (by simpa using hx)
/-- Which extents end behind a sector, which begin at it or behind. -/
def endsP (a : Int) (x : Xt) : Bool := decide (a < (x.fin : Nat))
def atP (a : Int) (x : Xt) : Bool := decide (a ≤ (x.at_ : Nat))
theorem endsP_mono (a : Int) (x y : Xt) (_hx : 1 ≤ x.len) (hy : 1 ≤ y.len) (h : x.fin ≤ y.at_) (hp : endsP a x = true) : endsP a y = true := by
  unfold endsP Xt.fin at *
  simp at *
  omega
theorem atP_mono (a : Int) (x y : Xt) (hx : 1 ≤ x.len) (_hy : 1 ≤ y.len) (h : x.fin ≤ y.at_) (hp : atP a x = true) : atP a y = true := by
  unfold atP Xt.fin at *
  simp at *
  omega
theorem Ris.get_pos : ∀ {l : List Xt}, Ris l → ∀ x ∈ l, 1 ≤ x.len
  | [], _, _, h => by simp at h
  | [y], hr, x, h => by simp at h; subst h; exact hr
  | y :: z :: r, hr, x, h => by
    rcases List.mem_cons.1 h with rfl | h
    · exact hr.1
    · exact Ris.get_pos hr.2.2 x h
theorem idx_idx {a b : Int} (hab : a < b) : ∀ {l : List Xt}, Ris l → idx (endsP a) l ≤ idx (atP b) l
  | [], _ => Nat.le_refl _
  | x :: r, hr => by
    have hp := hr.pos
    have ht : Ris r := by
      cases r with
      | nil => trivial
      | cons y r => exact hr.2.2
    have ih := idx_idx hab ht
    unfold idx
    by_cases h1 : endsP a x = true
    · rw [if_pos h1]
      exact Nat.zero_le _
    · rw [if_neg h1]
      have h2 : ¬ atP b x = true := by
        unfold endsP atP Xt.fin at *
        simp at *
        omega
      rw [if_neg h2]
      omega
theorem Ris.tail {x : Xt} {r : List Xt} (h : Ris (x :: r)) : Ris r := by
  cases r with
  | nil => trivial
  | cons y r => exact h.2.2
/-- The beginning and the rest of an extent. -/
def Xt.front (x : Xt) (a : Nat) : Xt := ⟨x.at_, a - x.at_, x.seq, x.to⟩
def Xt.rear (x : Xt) (a : Nat) : Xt := ⟨a, x.fin - a, x.seq, x.to + (a - x.at_)⟩
def aheadL : List Xt → Nat → List Xt
  | [], _ => []
  | x :: r, a => if x.fin ≤ a then x :: aheadL r a else if a ≤ x.at_ then [] else [x.front a]
def behindL : List Xt → Nat → List Xt
  | [], _ => []
  | x :: r, a => if x.fin ≤ a then behindL r a else if a ≤ x.at_ then x :: r else x.rear a :: r
/-- What the program's cut answers, by the place that it searches. -/
theorem cut_whole : ∀ {l : List Xt} {a : Nat}, (∀ x, l[idx (endsP (a : Nat)) l]? = some x → a ≤ x.at_) → aheadL l a = l.take (idx (endsP (a : Nat)) l) ∧ behindL l a = l.drop (idx (endsP (a : Nat)) l)
  | [], _, _ => ⟨rfl, rfl⟩
  | x :: r, a, h => by
    unfold idx at h ⊢
    by_cases h1 : endsP (a : Nat) x = true
    · rw [if_pos h1] at h ⊢
      have hx := h x rfl
      have h2 : ¬ x.fin ≤ a := by unfold endsP at h1; simp at h1; omega
      unfold aheadL behindL
      rw [if_neg h2, if_pos hx, if_neg h2, if_pos hx]
      exact ⟨rfl, rfl⟩
    · rw [if_neg h1] at h ⊢
      have h2 : x.fin ≤ a := by unfold endsP at h1; simp at h1; omega
      obtain ⟨i1, i2⟩ := cut_whole (l := r) (a := a) (by simpa using h)
      unfold aheadL behindL
      rw [if_pos h2, if_pos h2, i1, i2]
      exact ⟨rfl, rfl⟩
theorem cut_part : ∀ {l : List Xt} {a : Nat} {x : Xt}, l[idx (endsP (a : Nat)) l]? = some x → ¬ a ≤ x.at_ → aheadL l a = l.take (idx (endsP (a : Nat)) l) ++ [x.front a] ∧ behindL l a = x.rear a :: l.drop (idx (endsP (a : Nat)) l + 1)
  | [], _, _, h, _ => by simp at h
  | y :: r, a, x, h, hx => by
    unfold idx at h ⊢
    by_cases h1 : endsP (a : Nat) y = true
    · rw [if_pos h1] at h ⊢
      simp at h
      subst h
      have h2 : ¬ y.fin ≤ a := by unfold endsP at h1; simp at h1; omega
      unfold aheadL behindL
      rw [if_neg h2, if_neg hx, if_neg h2, if_neg hx]
      exact ⟨rfl, rfl⟩
    · rw [if_neg h1] at h ⊢
      have h2 : y.fin ≤ a := by unfold endsP at h1; simp at h1; omega
      obtain ⟨i1, i2⟩ := cut_part (l := r) (a := a) (x := x) (by simpa using h) hx
      unfold aheadL behindL
      rw [if_pos h2, if_pos h2, i1, i2]
      exact ⟨rfl, rfl⟩
/-- Lists one behind the other. -/
theorem ahead_front : ∀ {A B : List Xt} {a : Nat}, (∀ x ∈ A, x.fin ≤ a) → aheadL (A ++ B) a = A ++ aheadL B a
  | [], _, _, _ => rfl
  | x :: A, B, a, h => by
    rw [List.cons_append, aheadL, if_pos (h x (by simp)), ahead_front fun y hy => h y (by simp [hy])]
    rfl
theorem behind_front : ∀ {A B : List Xt} {a : Nat}, (∀ x ∈ A, x.fin ≤ a) → behindL (A ++ B) a = behindL B a
  | [], _, _, _ => rfl
  | x :: A, B, a, h => by
    rw [List.cons_append, behindL, if_pos (h x (by simp)), behind_front fun y hy => h y (by simp [hy])]
theorem ahead_none : ∀ {C : List Xt} {a : Nat}, (∀ x ∈ C, a ≤ x.at_ ∧ 1 ≤ x.len) → aheadL C a = []
  | [], _, _ => rfl
  | x :: C, a, h => by
    obtain ⟨h1, h2⟩ := h x (by simp)
    rw [aheadL, if_neg (by unfold Xt.fin; omega), if_pos h1]
theorem behind_all : ∀ {C : List Xt} {a : Nat}, (∀ x ∈ C, a ≤ x.at_ ∧ 1 ≤ x.len) → behindL C a = C
  | [], _, _ => rfl
  | x :: C, a, h => by
    obtain ⟨h1, h2⟩ := h x (by simp)
    rw [behindL, if_neg (by unfold Xt.fin; omega), if_pos h1]
theorem ahead_rear : ∀ {B C : List Xt} {a : Nat}, (∀ x ∈ C, a ≤ x.at_ ∧ 1 ≤ x.len) → aheadL (B ++ C) a = aheadL B a
  | [], C, a, h => by rw [List.nil_append, ahead_none h]; rfl
  | x :: B, C, a, h => by
    rw [List.cons_append, aheadL, aheadL]
    split
    · rw [ahead_rear h]
    · rfl
theorem behind_rear : ∀ {B C : List Xt} {a : Nat}, (∀ x ∈ C, a ≤ x.at_ ∧ 1 ≤ x.len) → behindL (B ++ C) a = behindL B a ++ C
  | [], C, a, h => by rw [List.nil_append, behind_all h]; rfl
  | x :: B, C, a, h => by
    rw [List.cons_append, behindL, behindL]
    split
    · rw [behind_rear h]
    · split <;> rfl
theorem behind_behind : ∀ {l : List Xt} {a b : Nat}, a ≤ b → behindL (behindL l a) b = behindL l b
  | [], _, _, _ => rfl
  | x :: r, a, b, h => by
    rw [behindL]
    split
    · rw [behind_behind h, behindL, if_pos (by omega)]
    · split
      · rfl
      · rename_i h1 h2
        rw [behindL, behindL]
        have hf : (x.rear a).fin = x.fin := by unfold Xt.rear Xt.fin at *; simp; omega
        rw [hf]
        split
        · rfl
        · rename_i h3
          by_cases hb : b = a
          · subst hb
            rw [if_pos (by show _ ≤ _; exact Nat.le_refl _), if_neg h2]
          · rw [if_neg (by show ¬ b ≤ a; omega), if_neg (by omega)]
            have e1 : x.to + (a - x.at_) + (b - a) = x.to + (b - x.at_) := by omega
            show (⟨b, (x.rear a).fin - b, x.seq, x.to + (a - x.at_) + (b - a)⟩ : Xt) :: r = ⟨b, x.fin - b, x.seq, x.to + (b - x.at_)⟩ :: r
            rw [hf, e1]

end Wi
end Go.Proofs.Ytjbgojccfkmlnaa
