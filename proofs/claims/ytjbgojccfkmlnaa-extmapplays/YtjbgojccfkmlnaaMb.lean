/- Extents that rise, as few as can be: the spots of the sectors alone tell which they are; no program. -/
import Derived.Test.YtjbgojccfkmlnaaMa
namespace Go.Proofs.Ytjbgojccfkmlnaa
namespace Wi

/-- So many sectors from one on, at a place of an object. -/
structure Xt where
  at_ : Nat
  len : Nat
  seq : Nat
  to : Nat
def Xt.fin (x : Xt) : Nat := x.at_ + x.len
/-- Where a sector is. -/
def spot : List Xt → Nat → Option (Nat × Nat)
  | [], _ => none
  | x :: r, i => if x.at_ ≤ i ∧ i < x.fin then some (x.seq, x.to + (i - x.at_)) else spot r i
/-- Does an extent go on in another one? -/
def Goes (x y : Xt) : Prop := y.at_ = x.fin ∧ y.seq = x.seq ∧ y.to = x.to + x.len
/-- Rising, as few as can be. -/
def Can : List Xt → Prop
  | [] => True
  | [x] => 1 ≤ x.len
  | x :: y :: r => 1 ≤ x.len ∧ x.fin ≤ y.at_ ∧ ¬ Goes x y ∧ Can (y :: r)
theorem Can.tail {x : Xt} {r : List Xt} (h : Can (x :: r)) : Can r := by
  cases r with
  | nil => trivial
  | cons y r => exact h.2.2.2
theorem Can.pos {x : Xt} {r : List Xt} (h : Can (x :: r)) : 1 ≤ x.len := by
  cases r with
  | nil => exact h
  | cons y r => exact h.1
theorem spot_low : ∀ {r : List Xt} {x : Xt} {i : Nat}, Can (x :: r) → i < x.fin → spot r i = none
  | [], _, _, _, _ => rfl
  | y :: r, x, i, h, hi => by
    have h1 := h.2.1
    have hy := h.tail
    have hp := hy.pos
    have ih := spot_low hy (i := i) (by unfold Xt.fin at *; omega)
    rw [spot, if_neg (by omega)]
    exact ih
theorem spot_ahead {x : Xt} {r : List Xt} {i : Nat} (h : Can (x :: r)) (hi : i < x.at_) : spot (x :: r) i = none := by
  rw [spot, if_neg (by omega)]
  exact spot_low h (by unfold Xt.fin; omega)
theorem spot_first {x : Xt} {r : List Xt} (h : Can (x :: r)) : spot (x :: r) x.at_ = some (x.seq, x.to) := by
  have := h.pos
  rw [spot, if_pos (by unfold Xt.fin; omega), Nat.sub_self, Nat.add_zero]
theorem spot_in {x : Xt} {r : List Xt} {i : Nat} (h1 : x.at_ ≤ i) (h2 : i < x.fin) : spot (x :: r) i = some (x.seq, x.to + (i - x.at_)) := by
  rw [spot, if_pos ⟨h1, h2⟩]
theorem spot_behind {x : Xt} {r : List Xt} {i : Nat} (h : x.fin ≤ i) : spot (x :: r) i = spot r i := by
  rw [spot, if_neg (by omega)]
/-- The sector behind an extent is not where the extent would go on. -/
theorem spot_next {x : Xt} {r : List Xt} (h : Can (x :: r)) : spot (x :: r) x.fin ≠ some (x.seq, x.to + x.len) := by
  rw [spot_behind (Nat.le_refl _)]
  cases r with
  | nil => simp [spot]
  | cons y r =>
    obtain ⟨_, h2, h3, h4⟩ := h
    intro e
    rcases Nat.lt_or_ge x.fin y.at_ with hl | hl
    · rw [spot_ahead h4 hl] at e
      cases e
    · have ea : y.at_ = x.fin := by omega
      rw [← ea, spot_first h4] at e
      injection e with e
      injection e with e1 e2
      exact h3 ⟨ea, e1, e2⟩
theorem len_le {x y : Xt} {r s : List Xt} (hx : Can (x :: r)) (h1 : x.at_ = y.at_) (h2 : x.seq = y.seq) (h3 : x.to = y.to) (h : ∀ i, spot (x :: r) i = spot (y :: s) i) : y.len ≤ x.len := by
  rcases Nat.lt_or_ge x.len y.len with hl | hl
  · have e := h x.fin
    rw [spot_in (x := y) (i := x.fin) (by unfold Xt.fin; omega) (by unfold Xt.fin; omega)] at e
    exact absurd (e.trans (by rw [h2, h3, show x.fin - y.at_ = x.len by unfold Xt.fin; omega])) (spot_next hx)
  · exact hl
/-- The spots alone tell which extents there are. -/
theorem can_eq : ∀ {l m : List Xt}, Can l → Can m → (∀ i, spot l i = spot m i) → l = m
  | [], [], _, _, _ => rfl
  | [], y :: s, _, hm, h => by
    have := h y.at_
    rw [spot_first hm] at this
    cases this
  | x :: r, [], hl, _, h => by
    have := h x.at_
    rw [spot_first hl] at this
    cases this
  | x :: r, y :: s, hl, hm, h => by
    have ea : x.at_ = y.at_ := by
      rcases Nat.lt_trichotomy x.at_ y.at_ with e | e | e
      · have := h x.at_
        rw [spot_first hl, spot_ahead hm e] at this
        cases this
      · exact e
      · have := h y.at_
        rw [spot_first hm, spot_ahead hl e] at this
        cases this
    have es := h x.at_
    rw [spot_first hl, ea, spot_first hm] at es
    injection es with es
    injection es with e1 e2
    have k1 := len_le hl ea e1 e2 h
    have k2 := len_le hm ea.symm e1.symm e2.symm fun i => (h i).symm
    have el : x.len = y.len := by omega
    have ex : x = y := by
      cases x
      cases y
      simp only at ea e1 e2 el
      subst ea e1 e2 el
      rfl
    subst ex
    rw [can_eq hl.tail hm.tail fun i => ?_]
    rcases Nat.lt_or_ge i x.fin with hi | hi
    · rw [spot_low hl hi, spot_low hm hi]
    · have := h i
      rwa [spot_behind hi, spot_behind hi] at this

end Wi
end Go.Proofs.Ytjbgojccfkmlnaa
