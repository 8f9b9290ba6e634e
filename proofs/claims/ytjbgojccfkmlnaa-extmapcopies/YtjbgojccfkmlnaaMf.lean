/- Extents that are joined one by one, and laid in the place of what was there; no program. -/
import Derived.Test.YtjbgojccfkmlnaaMe
namespace Go.Proofs.Ytjbgojccfkmlnaa
namespace Wi

/-- One more extent behind those that there are. -/
def stepJ (A : List Xt) (x : Xt) : List Xt :=
  match A.getLast? with
  | none => [x]
  | some y => if Goes y x then A.dropLast ++ [y.more x] else A ++ [x]
theorem stepJ_nil (x : Xt) : stepJ [] x = [x] := rfl
theorem stepJ_snoc (A : List Xt) (y x : Xt) : stepJ (A ++ [y]) x = if Goes y x then A ++ [y.more x] else A ++ [y] ++ [x] := by
  unfold stepJ
  simp
theorem foldJ_snoc : ∀ (r : List Xt) (A : List Xt) (y : Xt), r.foldl stepJ (A ++ [y]) = A ++ jnx y r
  | [], _, _ => rfl
  | x :: r, A, y => by
    rw [List.foldl_cons, stepJ_snoc, jnx]
    split
    · rw [foldJ_snoc r A]
    · rw [foldJ_snoc r (A ++ [y]), List.append_assoc]
      rfl
theorem foldJ (l : List Xt) : l.foldl stepJ [] = joinL l := by
  cases l with
  | nil => rfl
  | cons x r =>
    rw [List.foldl_cons, stepJ_nil]
    exact foldJ_snoc r [] x
theorem joinL_snoc (l : List Xt) (x : Xt) : joinL (l ++ [x]) = stepJ (joinL l) x := by
  rw [← foldJ, ← foldJ, List.foldl_append]
  rfl
/-- Joined behind others that do not go on. -/
theorem join_front {A M : List Xt} (hA : Can A) (h : ∀ y m, A.getLast? = some y → M.head? = some m → ¬ Goes y m) : joinL (A ++ M) = A ++ joinL M := by
  rw [← foldJ, List.foldl_append, foldJ, join_same hA]
  cases M with
  | nil => simp [joinL]
  | cons m M =>
    rw [List.foldl_cons]
    rcases List.eq_nil_or_concat A with rfl | ⟨B, y, rfl⟩
    · rw [stepJ_nil, List.nil_append]
      exact foldJ_snoc M [] m
    · have hg := h y m (by simp) rfl
      rw [List.concat_eq_append, stepJ_snoc, if_neg hg, foldJ_snoc]
      rfl
/-- The last one of what is joined ends as the last one does. -/
theorem jnx_last : ∀ (r : List Xt) (x z : Xt), (jnx x r).getLast? = some z → ∃ u, (x :: r).getLast? = some u ∧ z.fin = u.fin ∧ z.seq = u.seq ∧ z.to + z.len = u.to + u.len
  | [], x, z, h => by
    simp [jnx] at h
    subst h
    exact ⟨x, by simp, rfl, rfl, rfl⟩
  | y :: r, x, z, h => by
    unfold jnx at h
    split at h
    · rename_i hg
      obtain ⟨u, h1, h2, h3, h4⟩ := jnx_last r (x.more y) z h
      obtain ⟨g1, g2, g3⟩ := hg
      cases r with
      | nil =>
        simp at h1
        subst h1
        refine ⟨y, by simp, h2.trans ?_, h3.trans ?_, h4.trans ?_⟩
        · show x.at_ + (x.len + y.len) = y.at_ + y.len
          unfold Xt.fin at g1
          omega
        · exact g2.symm
        · show x.to + (x.len + y.len) = _
          omega
      | cons v r => exact ⟨u, by simpa using h1, h2, h3, h4⟩
    · have hne : jnx y r ≠ [] := by
        cases r with
        | nil => simp [jnx]
        | cons v r =>
          obtain hh | hh := Classical.em (Goes y v)
          · unfold jnx
            rw [if_pos hh]
            intro e
            have := jnx_nonempty r (y.more v)
            exact this e
          · unfold jnx
            rw [if_neg hh]
            simp
      obtain ⟨u, h1, h2⟩ := jnx_last r y z (by
        cases hj : jnx y r with
        | nil => exact absurd hj hne
        | cons a b => rw [hj, List.getLast?_cons_cons] at h; exact h)
      exact ⟨u, by rw [List.getLast?_cons_cons]; exact h1, h2⟩
where
  jnx_nonempty : ∀ (r : List Xt) (x : Xt), jnx x r ≠ []
    | [], _ => by simp [jnx]
    | y :: r, x => by
      unfold jnx
      split
      · exact jnx_nonempty r (x.more y)
      · simp
theorem join_last {l : List Xt} {z : Xt} (h : (joinL l).getLast? = some z) : ∃ u, l.getLast? = some u ∧ z.fin = u.fin ∧ z.seq = u.seq ∧ z.to + z.len = u.to + u.len := by
  cases l with
  | nil => simp [joinL] at h
  | cons x r => exact jnx_last r x z h
theorem join_rear {M B : List Xt} (hM : Ris M) (hB : Can B) (h : ∀ z y, M.getLast? = some z → B.head? = some y → ¬ Goes z y) : joinL (M ++ B) = joinL M ++ B := by
  have e : joinL (M ++ B) = joinL (joinL M ++ B) := by
    rw [← foldJ (M ++ B), List.foldl_append, foldJ, ← foldJ (joinL M ++ B), List.foldl_append, foldJ, join_same (join_can hM)]
  rw [e, join_front (join_can hM) fun z y hz hy hg => ?_, join_same hB]
  obtain ⟨u, h1, h2, h3, h4⟩ := join_last hz
  obtain ⟨g1, g2, g3⟩ := hg
  exact h u y h1 hy ⟨g1.trans h2, g2.trans h3, g3.trans h4⟩
/-- What there was of some sectors, and what there is when they are elsewhere. -/
def wasL (l : List Xt) (a b : Nat) : List Xt := aheadL (behindL l a) b
def layL (l : List Xt) (a b : Nat) (X : List Xt) : List Xt := joinL (aheadL l a ++ X ++ behindL l b)
theorem lay_ris {l X : List Xt} {a b : Nat} (hl : Ris l) (hX : Ris X) (hab : a ≤ b) (hx : ∀ x ∈ X, a ≤ x.at_ ∧ x.fin ≤ b) : Ris (aheadL l a ++ X ++ behindL l b) := by
  refine Ris.append (Ris.append (ahead_ris hl) hX fun x h y h' => Nat.le_trans (ahead_fin x h) (hx y h').1) (behind_ris hl) fun x h y h' => ?_
  have hy := behind_at hl y h'
  rcases List.mem_append.1 h with h | h
  · have := ahead_fin x h
    omega
  · have := (hx x h).2
    omega
theorem lay_can {l X : List Xt} {a b : Nat} (hl : Ris l) (hX : Ris X) (hab : a ≤ b) (hx : ∀ x ∈ X, a ≤ x.at_ ∧ x.fin ≤ b) : Can (layL l a b X) := join_can (lay_ris hl hX hab hx)
theorem lay_spot {l X : List Xt} {a b : Nat} (hl : Ris l) (hX : Ris X) (hab : a ≤ b) (hx : ∀ x ∈ X, a ≤ x.at_ ∧ x.fin ≤ b) (i : Nat) : spot (layL l a b X) i = if a ≤ i ∧ i < b then spot X i else spot l i := by
  rw [layL, join_spot (lay_ris hl hX hab hx), spot_append, spot_append, ahead_spot hl, behind_spot hl]
  by_cases h1 : i < a
  · have e : spot X i = none := spot_out fun x h => .inl (Nat.lt_of_lt_of_le h1 (hx x h).1)
    rw [if_pos h1, if_neg (by omega), if_neg (by omega), e]
    simp
  · rw [if_neg h1]
    by_cases h2 : i < b
    · rw [if_neg (by omega), if_pos ⟨by omega, h2⟩]
      simp
    · have e : spot X i = none := spot_out fun x h => .inr (Nat.le_trans (hx x h).2 (by omega))
      rw [if_pos (by omega), if_neg (by omega), e]
      simp
theorem was_can {l : List Xt} {a b : Nat} (h : Can l) : Can (wasL l a b) := ahead_can (behind_can h)
theorem was_spot {l : List Xt} {a b : Nat} (h : Ris l) (i : Nat) : spot (wasL l a b) i = if a ≤ i ∧ i < b then spot l i else none := by
  rw [wasL, ahead_spot (behind_ris h), behind_spot h]
  by_cases h1 : i < b
  · rw [if_pos h1]
    by_cases h2 : a ≤ i
    · rw [if_pos h2, if_pos ⟨h2, h1⟩]
    · rw [if_neg h2, if_neg (fun h => h2 h.1)]
  · rw [if_neg h1, if_neg (fun h => h1 h.2)]
theorem was_in {l : List Xt} {a b : Nat} (h : Ris l) : ∀ x ∈ wasL l a b, a ≤ x.at_ ∧ x.fin ≤ b ∧ 1 ≤ x.len := fun x hx => by
  obtain ⟨h1, y, hy, h2, _⟩ := ahead_from (behind_ris h) x hx
  refine ⟨?_, ahead_fin x hx, h1⟩
  rw [← h2]
  exact behind_at h y hy
/-- What the program does in a part of the list. -/
theorem lay_part {A S B X : List Xt} {a b : Nat} (hl : Can (A ++ S ++ B)) (hX : Ris X) (hab : a ≤ b) (hx : ∀ x ∈ X, a ≤ x.at_ ∧ x.fin ≤ b) (hA : ∀ x ∈ A, x.fin < a) (hB : ∀ x ∈ B, b < x.at_) :
    A ++ joinL (aheadL S a ++ X ++ behindL (behindL S a) b) ++ B = layL (A ++ S ++ B) a b X ∧ wasL S a b = wasL (A ++ S ++ B) a b := by
  have hrl := hl.ris
  have hrS : Ris S := (Ris.right (A := A) (Ris.left hrl))
  have hrB : Ris B := Ris.right hrl
  have hBp : ∀ c, c ≤ b → ∀ x ∈ B, c ≤ x.at_ ∧ 1 ≤ x.len := fun c hc x h => ⟨by have := hB x h; omega, hrB.get_pos x h⟩
  have hAp : ∀ c, a ≤ c → ∀ x ∈ A, x.fin ≤ c := fun c hc x h => by have := hA x h; omega
  have e1 : aheadL (A ++ S ++ B) a = A ++ aheadL S a := by rw [ahead_rear (hBp a hab), ahead_front (hAp a (Nat.le_refl _))]
  have e2 : behindL (A ++ S ++ B) b = behindL S b ++ B := by rw [behind_rear (hBp b (Nat.le_refl _)), behind_front (hAp b hab)]
  have e3 : behindL (A ++ S ++ B) a = behindL S a ++ B := by rw [behind_rear (hBp a hab), behind_front (hAp a (Nat.le_refl _))]
  refine ⟨?_, ?_⟩
  · rw [behind_behind hab, layL, e1, e2]
    have hM : Ris (aheadL S a ++ X ++ behindL S b) := lay_ris hrS hX hab hx
    have e4 : A ++ aheadL S a ++ X ++ (behindL S b ++ B) = A ++ ((aheadL S a ++ X ++ behindL S b) ++ B) := by simp [List.append_assoc]
    rw [e4, join_front hl.left.left, join_rear hM hl.right, List.append_assoc]
    · intro z y hz hy hg
      have hy2 : y ∈ B := List.mem_of_mem_head? (by rw [hy]; rfl)
      have hby := hB y hy2
      have hz2 : (behindL S b).getLast? = some z := by
        rcases List.eq_nil_or_concat (behindL S b) with e | ⟨C, c, e⟩
        · rw [e, List.append_nil] at hz
          have := List.mem_of_getLast? hz
          obtain ⟨g1, _⟩ := hg
          rcases List.mem_append.1 this with h | h
          · have := ahead_fin z h
            omega
          · have := (hx z h).2
            omega
        · rw [e, List.concat_eq_append, ← List.append_assoc, List.getLast?_concat] at hz
          rw [e, List.concat_eq_append, List.getLast?_concat]
          exact hz
      obtain ⟨g1, g2, g3⟩ := hg
      obtain ⟨u, hu, u1, u2, u3⟩ := behind_last hz2
      rcases List.eq_nil_or_concat S with e | ⟨C, c, e⟩
      · rw [e] at hu
        simp at hu
      · rw [e, List.concat_eq_append, List.getLast?_concat] at hu
        injection hu with hu
        subst hu
        cases B with
        | nil => simp at hy
        | cons y' B =>
          simp at hy
          subst hy
          have hl2 : Can ((A ++ C) ++ c :: y' :: B) := by
            have : A ++ S ++ y' :: B = (A ++ C) ++ c :: y' :: B := by rw [e]; simp
            rw [← this]
            exact hl
          exact hl2.link ⟨g1.trans u1, g2.trans u2, g3.trans u3⟩
    · intro y m hy hm hg
      have hy2 : y ∈ A := List.mem_of_getLast? hy
      have hay := hA y hy2
      obtain ⟨g1, g2, g3⟩ := hg
      have hm2 : (aheadL S a).head? = some m := by
        cases hS : aheadL S a with
        | cons s t =>
          rw [hS] at hm
          simpa using hm
        | nil =>
          rw [hS, List.nil_append] at hm
          have := List.mem_of_mem_head? (by rw [hm]; rfl : m ∈ (X ++ behindL S b ++ B).head?)
          rcases List.mem_append.1 this with h | h
          · rcases List.mem_append.1 h with h | h
            · have := (hx m h).1
              omega
            · have := behind_at hrS m h
              omega
          · have := hB m h
            omega
      obtain ⟨u, hu, u1, u2, u3⟩ := ahead_head hm2
      rcases List.eq_nil_or_concat A with e | ⟨C, c, e⟩
      · rw [e] at hy2
        simp at hy2
      · rw [e, List.concat_eq_append, List.getLast?_concat] at hy
        injection hy with hy
        subst hy
        cases S with
        | nil => simp at hu
        | cons u' S =>
          simp at hu
          subst hu
          have hl2 : Can (C ++ c :: u' :: (S ++ B)) := by
            have : A ++ (u' :: S) ++ B = C ++ c :: u' :: (S ++ B) := by rw [e]; simp
            rw [← this]
            exact hl
          exact hl2.link ⟨u1.symm.trans g1, u2.symm.trans g2, u3.symm.trans g3⟩
  · rw [wasL, wasL, e3, ahead_rear (hBp b (Nat.le_refl _))]
where
  ahead_head : ∀ {S : List Xt} {a : Nat} {m : Xt}, (aheadL S a).head? = some m → ∃ u, S.head? = some u ∧ m.at_ = u.at_ ∧ m.seq = u.seq ∧ m.to = u.to
    | [], _, _, h => by simp [aheadL] at h
    | y :: r, a, m, h => by
      rw [aheadL] at h
      split at h
      · simp at h
        subst h
        exact ⟨y, rfl, rfl, rfl, rfl⟩
      · split at h
        · simp at h
        · simp at h
          subst h
          exact ⟨y, rfl, rfl, rfl, rfl⟩
  behind_last : ∀ {S : List Xt} {b : Nat} {z : Xt}, (behindL S b).getLast? = some z → ∃ u, S.getLast? = some u ∧ z.fin = u.fin ∧ z.seq = u.seq ∧ z.to + z.len = u.to + u.len
    | [], _, _, h => by simp [behindL] at h
    | y :: r, b, z, h => by
      rw [behindL] at h
      split at h
      · obtain ⟨u, h1, h2⟩ := behind_last h
        refine ⟨u, ?_, h2⟩
        cases r with
        | nil => simp at h1
        | cons v r => rw [List.getLast?_cons_cons]; exact h1
      · split at h
        · exact ⟨z, h, rfl, rfl, rfl⟩
        · rename_i k1 k2
          unfold Xt.fin at k1
          cases r with
          | nil =>
            simp at h
            subst h
            refine ⟨y, by simp, ?_, rfl, ?_⟩
            · show b + (y.at_ + y.len - b) = y.at_ + y.len
              omega
            · show y.to + (b - y.at_) + (y.at_ + y.len - b) = y.to + y.len
              omega
          | cons v r =>
            rw [List.getLast?_cons_cons] at h ⊢
            exact ⟨z, h, rfl, rfl, rfl⟩

end Wi
end Go.Proofs.Ytjbgojccfkmlnaa
