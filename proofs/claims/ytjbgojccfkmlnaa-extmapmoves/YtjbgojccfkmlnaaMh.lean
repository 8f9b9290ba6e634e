/- What Put and Cut leave, extent by extent, is what the map of the document has then; no program but its numbers. -/
import Derived.Test.YtjbgojccfkmlnaaWw
import Derived.Test.YtjbgojccfkmlnaaRb
import Derived.Test.YtjbgojccfkmlnaaRc
namespace Go.Proofs.Ytjbgojccfkmlnaa
open Go.RowKit
namespace Wi

/-- What a Put of one extent leaves is what the document's map has then. -/
theorem put_rel {l : List Xt} {d : Rf} {n : Nat} (hl : Can l) (h : Rel l d n) {x : Xt} (h1 : 1 ≤ x.len) (hx : x.fin ≤ n) : Rel (layL l x.at_ x.fin [x]) (d.putN x x.len) n := fun i => by
  rw [lay_spot (b := x.fin) hl.ris (X := [x]) h1 (Nat.le_add_right _ _) (fun y hy => by simp at hy; subst hy; exact ⟨Nat.le_refl _, Nat.le_refl _⟩)]
  have e1 : (d.putN x x.len).is i = if x.at_ ≤ i ∧ i < x.at_ + x.len then true else d.is i := rfl
  have e2 : (d.putN x x.len).sq i = if x.at_ ≤ i ∧ i < x.at_ + x.len then x.seq else d.sq i := rfl
  have e3 : (d.putN x x.len).to i = if x.at_ ≤ i ∧ i < x.at_ + x.len then x.to + (i - x.at_) else d.to i := rfl
  by_cases hi : x.at_ ≤ i ∧ i < x.fin
  · have hi2 : x.at_ ≤ i ∧ i < x.at_ + x.len := hi
    have hn : i < n := Nat.lt_of_lt_of_le hi.2 hx
    rw [e1, e2, e3, if_pos hi, if_pos hi2, if_pos hi2, if_pos hi2, if_pos (show i < n ∧ true = true from ⟨hn, rfl⟩), spot_in hi.1 hi.2]
  · have hi2 : ¬ (x.at_ ≤ i ∧ i < x.at_ + x.len) := hi
    rw [e1, e2, e3, if_neg hi, if_neg hi2, if_neg hi2, if_neg hi2, h i]
/-- What a Cut of one span leaves is what the document's map has then. -/
theorem cut_rel {l : List Xt} {d : Rf} {n : Nat} (hl : Can l) (h : Rel l d n) (a m : Nat) : Rel (layL l a (a + m) []) (d.cutN a m) n := fun i => by
  rw [lay_spot (b := a + m) hl.ris (X := []) trivial (Nat.le_add_right _ _) (fun y hy => by cases hy)]
  have e1 : (d.cutN a m).is i = if a ≤ i ∧ i < a + m then false else d.is i := rfl
  have e2 : (d.cutN a m).sq i = d.sq i := rfl
  have e3 : (d.cutN a m).to i = d.to i := rfl
  by_cases hi : a ≤ i ∧ i < a + m
  · rw [e1, if_pos hi, if_pos hi, if_neg (show ¬ (i < n ∧ false = true) from fun e => by cases e.2)]
    rfl
  · rw [e1, e2, e3, if_neg hi, if_neg hi, h i]
/-- What the document's map does with each extent of a Put: what was there is found first. -/
def stepRP (p : Rf × List Xt) (x : Xt) : Rf × List Xt := (p.1.putN x x.len, p.2 ++ findN p.1 x.at_ x.len)
def stepRC (p : Rf × List Xt) (x : Xt) : Rf × List Xt := (p.1.cutN x.at_ x.len, p.2 ++ findN p.1 x.at_ x.len)
theorem puts_rel {n : Nat} : ∀ {xs l : List Xt} {d : Rf} {ws : List Xt}, Fit l → Rel l d n → (∀ x ∈ xs, x.Sm ∧ 1 ≤ x.len ∧ x.fin ≤ n) →
    Fit (xs.foldl stepP (l, ws)).1 ∧ Rel (xs.foldl stepP (l, ws)).1 (xs.foldl stepRP (d, ws)).1 n ∧ (xs.foldl stepP (l, ws)).2 = (xs.foldl stepRP (d, ws)).2
  | [], _, _, _, hF, h, _ => ⟨hF, h, rfl⟩
  | x :: r, l, d, ws, hF, h, hx => by
    obtain ⟨h1, h2, h3⟩ := hx x (by simp)
    have ew : wasL l x.at_ x.fin = findN d x.at_ x.len := (find_was hF.can h h3).symm
    rw [List.foldl_cons, List.foldl_cons, stepP, stepRP]
    simp only
    rw [ew]
    exact puts_rel (hF.put h1 h2) (put_rel hF.can h h2 h3) fun y hy => hx y (by simp [hy])
theorem cuts_rel {n : Nat} : ∀ {xs l : List Xt} {d : Rf} {ws : List Xt}, Fit l → Rel l d n → (∀ x ∈ xs, x.fin ≤ n) →
    Fit (xs.foldl stepC (l, ws)).1 ∧ Rel (xs.foldl stepC (l, ws)).1 (xs.foldl stepRC (d, ws)).1 n ∧ (xs.foldl stepC (l, ws)).2 = (xs.foldl stepRC (d, ws)).2
  | [], _, _, _, hF, h, _ => ⟨hF, h, rfl⟩
  | x :: r, l, d, ws, hF, h, hx => by
    have h3 := hx x (by simp)
    have ew : wasL l x.at_ x.fin = findN d x.at_ x.len := (find_was hF.can h h3).symm
    rw [List.foldl_cons, List.foldl_cons, stepC, stepRC]
    simp only
    rw [ew]
    exact cuts_rel hF.cut (cut_rel hF.can h x.at_ x.len) fun y hy => hx y (by simp [hy])
theorem Rf.Ok.putN {d : Rf} (h : d.Ok) {x : Xt} (h1 : x.seq < 1099511627776) (h2 : x.to + x.len ≤ 1099511693312) : (d.putN x x.len).Ok := fun i => by
  have e2 : (d.putN x x.len).sq i = if x.at_ ≤ i ∧ i < x.at_ + x.len then x.seq else d.sq i := rfl
  have e3 : (d.putN x x.len).to i = if x.at_ ≤ i ∧ i < x.at_ + x.len then x.to + (i - x.at_) else d.to i := rfl
  rw [e2, e3]
  split
  · exact ⟨h1, by omega⟩
  · exact h i
theorem Rf.Ok.cutN {d : Rf} (h : d.Ok) (a m : Nat) : (d.cutN a m).Ok := fun i => h i

end Wi
end Go.Proofs.Ytjbgojccfkmlnaa
