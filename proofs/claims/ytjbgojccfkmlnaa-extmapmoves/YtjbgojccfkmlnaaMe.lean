/- Extents that are laid in the place of what was there; no program. -/
import Derived.Test.YtjbgojccfkmlnaaMd
namespace Go.Proofs.Ytjbgojccfkmlnaa
namespace Wi

theorem Ris.append : ∀ {A B : List Xt}, Ris A → Ris B → (∀ x ∈ A, ∀ y ∈ B, x.fin ≤ y.at_) → Ris (A ++ B)
  | [], _, _, hB, _ => hB
  | [x], [], hA, _, _ => hA
  | [x], y :: B, hA, hB, h => ⟨hA, h x (by simp) y (by simp), hB⟩
  | x :: z :: A, B, hA, hB, h => ⟨hA.1, hA.2.1, Ris.append hA.2.2 hB fun u hu v hv => h u (List.mem_cons_of_mem _ hu) v hv⟩
theorem Ris.left : ∀ {A B : List Xt}, Ris (A ++ B) → Ris A
  | [], _, _ => trivial
  | [_x], _, h => h.pos
  | _x :: z :: A, _B, h => ⟨h.1, h.2.1, Ris.left (A := z :: A) h.2.2⟩
theorem Ris.right : ∀ {A B : List Xt}, Ris (A ++ B) → Ris B
  | [], _, h => h
  | _ :: A, _, h => Ris.right (A := A) h.tail
/-- All that stands behind begins behind. -/
theorem Ris.first : ∀ {r : List Xt} {x : Xt}, Ris (x :: r) → ∀ y ∈ r, x.fin ≤ y.at_
  | [], _, _, _, h => by simp at h
  | z :: r, x, hr, y, h => by
    rcases List.mem_cons.1 h with rfl | h
    · exact hr.2.1
    · have := Ris.first hr.2.2 y h
      have h1 := hr.2.1
      have h2 := hr.2.2.pos
      unfold Xt.fin at *
      omega
theorem Ris.parts : ∀ {A B : List Xt}, Ris (A ++ B) → ∀ x ∈ A, ∀ y ∈ B, x.fin ≤ y.at_
  | [], _, _, _, h, _, _ => by simp at h
  | z :: A, B, hr, x, hx, y, hy => by
    rcases List.mem_cons.1 hx with rfl | hx
    · exact Ris.first hr y (by simp [hy])
    · exact Ris.parts (A := A) hr.tail x hx y hy
theorem Can.left : ∀ {A B : List Xt}, Can (A ++ B) → Can A
  | [], _, _ => trivial
  | [_x], _, h => h.pos
  | _x :: z :: A, _B, h => ⟨h.1, h.2.1, h.2.2.1, Can.left (A := z :: A) h.2.2.2⟩
theorem Can.right : ∀ {A B : List Xt}, Can (A ++ B) → Can B
  | [], _, h => h
  | _ :: A, _, h => Can.right (A := A) h.tail
theorem Can.link : ∀ {A B : List Xt} {x y : Xt}, Can (A ++ x :: y :: B) → ¬ Goes x y
  | [], _, _, _, h => h.2.2.1
  | _ :: A, _, _, _, h => Can.link (A := A) h.tail
theorem spot_append : ∀ (A B : List Xt) (i : Nat), spot (A ++ B) i = (spot A i).or (spot B i)
  | [], B, i => by simp [spot]
  | x :: A, B, i => by
    rw [List.cons_append, spot, spot]
    split
    · simp
    · rw [spot_append A B i]
theorem spot_out : ∀ {l : List Xt} {i : Nat}, (∀ x ∈ l, i < x.at_ ∨ x.fin ≤ i) → spot l i = none
  | [], _, _ => rfl
  | x :: r, i, h => by
    have := h x (by simp)
    rw [spot, if_neg (by omega)]
    exact spot_out fun y hy => h y (by simp [hy])
/-- What is ahead of a sector. -/
theorem ahead_fin : ∀ {l : List Xt} {a : Nat}, ∀ x ∈ aheadL l a, x.fin ≤ a
  | [], _, _, h => by simp [aheadL] at h
  | y :: r, a, x, h => by
    rw [aheadL] at h
    split at h
    · rcases List.mem_cons.1 h with rfl | h
      · assumption
      · exact ahead_fin x h
    · split at h
      · simp at h
      · simp at h
        subst h
        unfold Xt.front Xt.fin
        simp
        omega
theorem behind_at : ∀ {l : List Xt} {a : Nat}, Ris l → ∀ x ∈ behindL l a, a ≤ x.at_
  | [], _, _, _, h => by simp [behindL] at h
  | y :: r, a, hr, x, h => by
    rw [behindL] at h
    have hf := hr.first
    split at h
    · exact behind_at hr.tail x h
    · split at h
      · rcases List.mem_cons.1 h with rfl | h
        · assumption
        · have := hf x h
          have := hr.pos
          unfold Xt.fin at *
          omega
      · rcases List.mem_cons.1 h with rfl | h
        · exact Nat.le_refl _
        · have := hf x h
          omega
/-- Where each of them comes from. -/
theorem ahead_from : ∀ {l : List Xt} {a : Nat}, Ris l → ∀ x ∈ aheadL l a, 1 ≤ x.len ∧ ∃ y ∈ l, y.at_ = x.at_ ∧ x.fin ≤ y.fin ∧ x.seq = y.seq ∧ x.to = y.to
  | [], _, _, _, h => by simp [aheadL] at h
  | y :: r, a, hr, x, h => by
    rw [aheadL] at h
    split at h
    · rcases List.mem_cons.1 h with rfl | h
      · exact ⟨hr.pos, x, by simp, rfl, Nat.le_refl _, rfl, rfl⟩
      · obtain ⟨h1, z, hz, h2⟩ := ahead_from hr.tail x h
        exact ⟨h1, z, by simp [hz], h2⟩
    · split at h
      · simp at h
      · rename_i h1 h2
        simp at h
        subst h
        unfold Xt.fin at h1
        refine ⟨by show 1 ≤ a - y.at_; omega, y, by simp, rfl, ?_, rfl, rfl⟩
        show y.at_ + (a - y.at_) ≤ y.at_ + y.len
        omega
theorem behind_from : ∀ {l : List Xt} {a : Nat}, Ris l → ∀ x ∈ behindL l a, 1 ≤ x.len ∧ ∃ y ∈ l, y.at_ ≤ x.at_ ∧ x.fin = y.fin ∧ x.seq = y.seq ∧ x.to + x.len = y.to + y.len
  | [], _, _, _, h => by simp [behindL] at h
  | y :: r, a, hr, x, h => by
    rw [behindL] at h
    split at h
    · obtain ⟨h1, z, hz, h2⟩ := behind_from hr.tail x h
      exact ⟨h1, z, by simp [hz], h2⟩
    · split at h
      · rename_i h1 h2
        exact ⟨hr.get_pos x h, x, h, Nat.le_refl _, rfl, rfl, rfl⟩
      · rename_i h1 h2
        rcases List.mem_cons.1 h with rfl | h
        · unfold Xt.fin at h1
          refine ⟨?_, y, by simp, ?_, ?_, rfl, ?_⟩
          · show 1 ≤ y.at_ + y.len - a
            omega
          · show y.at_ ≤ a
            omega
          · show a + (y.at_ + y.len - a) = y.at_ + y.len
            omega
          · show y.to + (a - y.at_) + (y.at_ + y.len - a) = y.to + y.len
            omega
        · exact ⟨hr.tail.get_pos x h, x, by simp [h], Nat.le_refl _, rfl, rfl, rfl⟩
theorem ahead_ris : ∀ {l : List Xt} {a : Nat}, Ris l → Ris (aheadL l a)
  | [], _, _ => trivial
  | y :: r, a, hr => by
    rw [aheadL]
    split
    · have ih := ahead_ris (a := a) hr.tail
      refine Ris.append (A := [y]) hr.pos ih fun u hu v hv => ?_
      simp at hu
      subst hu
      obtain ⟨_, z, hz, h1, _⟩ := ahead_from hr.tail v hv
      rw [← h1]
      exact hr.first z hz
    · split
      · trivial
      · show 1 ≤ a - y.at_
        omega
theorem behind_ris : ∀ {l : List Xt} {a : Nat}, Ris l → Ris (behindL l a)
  | [], _, _ => trivial
  | y :: r, a, hr => by
    rw [behindL]
    split
    · exact behind_ris hr.tail
    · split
      · exact hr
      · rename_i h1 h2
        unfold Xt.fin at h1
        refine Ris.append (A := [y.rear a]) (by show 1 ≤ y.at_ + y.len - a; omega) hr.tail fun u hu v hv => ?_
        simp at hu
        subst hu
        have := hr.first v hv
        show a + (y.at_ + y.len - a) ≤ _
        unfold Xt.fin at this
        omega
theorem ahead_spot : ∀ {l : List Xt} {a : Nat}, Ris l → ∀ i, spot (aheadL l a) i = if i < a then spot l i else none
  | [], _, _, _ => by simp [aheadL, spot]
  | y :: r, a, hr, i => by
    by_cases hi : i < a
    · rw [if_pos hi, aheadL]
      split
      · rw [spot, spot, ahead_spot hr.tail i, if_pos hi]
      · split
        · have : spot (y :: r) i = none := spot_out fun x hx => by
            rcases List.mem_cons.1 hx with rfl | hx
            · left; omega
            · have := hr.first x hx
              have := hr.pos
              unfold Xt.fin at *
              left; omega
          rw [this]
          rfl
        · rename_i h1 h2
          unfold Xt.fin at h1
          by_cases hy : y.at_ ≤ i
          · rw [spot_in (x := y.front a) (i := i) hy (by show i < y.at_ + (a - y.at_); omega), spot_in (x := y) (i := i) hy (by unfold Xt.fin; omega)]
            rfl
          · rw [spot, spot, if_neg (fun h : (y.front a).at_ ≤ i ∧ i < (y.front a).fin => hy h.1), spot, if_neg (fun h : y.at_ ≤ i ∧ i < y.fin => hy h.1)]
            have : spot r i = none := spot_out fun x hx => by
              have := hr.first x hx
              unfold Xt.fin at *
              left; omega
            rw [this]
    · rw [if_neg hi]
      exact spot_out fun x hx => .inr (Nat.le_trans (ahead_fin x hx) (by omega))
theorem behind_spot : ∀ {l : List Xt} {a : Nat}, Ris l → ∀ i, spot (behindL l a) i = if a ≤ i then spot l i else none
  | [], _, _, _ => by simp [behindL, spot]
  | y :: r, a, hr, i => by
    by_cases hi : a ≤ i
    · rw [if_pos hi, behindL]
      split
      · rw [behind_spot hr.tail i, if_pos hi, spot, if_neg (by omega)]
      · split
        · rfl
        · rename_i h1 h2
          unfold Xt.fin at h1
          by_cases hy : i < y.fin
          · unfold Xt.fin at hy
            rw [spot_in (x := y.rear a) (i := i) hi (by show i < a + (y.at_ + y.len - a); omega), spot_in (x := y) (i := i) (by omega) (by unfold Xt.fin; omega)]
            show some (y.seq, y.to + (a - y.at_) + (i - a)) = _
            rw [show y.to + (a - y.at_) + (i - a) = y.to + (i - y.at_) by omega]
          · unfold Xt.fin at hy
            rw [spot_behind (x := y.rear a) (i := i) (by show a + (y.at_ + y.len - a) ≤ i; omega), spot_behind (x := y) (i := i) (by unfold Xt.fin; omega)]
    · rw [if_neg hi]
      exact spot_out fun x hx => .inl (Nat.lt_of_lt_of_le (by omega) (behind_at hr x hx))
/-- What is as few as can be is so in its parts. -/
theorem ahead_can : ∀ {l : List Xt} {a : Nat}, Can l → Can (aheadL l a)
  | [], _, _ => trivial
  | [y], a, h => by
    have := ahead_ris (l := [y]) (a := a) h
    rw [aheadL] at this ⊢
    split
    · exact h
    · split
      · trivial
      · rename_i h1 h2
        rw [if_neg h1, if_neg h2] at this
        exact this
  | y :: z :: r, a, h => by
    have hr : Ris (aheadL (y :: z :: r) a) := ahead_ris h.ris
    have ih := ahead_can (l := z :: r) (a := a) h.2.2.2
    rw [aheadL] at hr ⊢
    split
    · rename_i h0
      rw [if_pos h0] at hr
      have key : ∀ u, (aheadL (z :: r) a).head? = some u → u.at_ = z.at_ ∧ u.seq = z.seq ∧ u.to = z.to := by
        intro u hu
        rw [aheadL] at hu
        split at hu
        · simp at hu
          subst hu
          exact ⟨rfl, rfl, rfl⟩
        · split at hu
          · simp at hu
          · simp at hu
            subst hu
            exact ⟨rfl, rfl, rfl⟩
      cases hL : aheadL (z :: r) a with
      | nil => exact h.1
      | cons u t =>
        obtain ⟨k1, k2, k3⟩ := key u (by rw [hL]; rfl)
        rw [hL] at ih
        refine ⟨h.1, by rw [k1]; exact h.2.1, fun g => h.2.2.1 ?_, ih⟩
        obtain ⟨g1, g2, g3⟩ := g
        exact ⟨by rw [← k1]; exact g1, by rw [← k2]; exact g2, by rw [← k3]; exact g3⟩
    · split
      · trivial
      · show 1 ≤ a - y.at_
        omega
theorem behind_can : ∀ {l : List Xt} {a : Nat}, Can l → Can (behindL l a)
  | [], _, _ => trivial
  | y :: r, a, h => by
    rw [behindL]
    split
    · exact behind_can h.tail
    · split
      · exact h
      · rename_i h1 h2
        unfold Xt.fin at h1
        have hp : 1 ≤ (y.rear a).len := by show 1 ≤ y.at_ + y.len - a; omega
        have hf : (y.rear a).fin = y.fin := by show a + (y.at_ + y.len - a) = y.at_ + y.len; omega
        cases r with
        | nil => exact hp
        | cons z r =>
          refine ⟨hp, by rw [hf]; exact h.2.1, fun g => h.2.2.1 ?_, h.2.2.2⟩
          obtain ⟨g1, g2, g3⟩ := g
          refine ⟨g1.trans hf, g2, g3.trans ?_⟩
          show y.to + (a - y.at_) + (y.at_ + y.len - a) = _
          omega

end Wi
end Go.Proofs.Ytjbgojccfkmlnaa
