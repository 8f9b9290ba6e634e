/- Extents that rise, joined to as few as can be; no program. -/
import Derived.Test.YtjbgojccfkmlnaaMb
namespace Go.Proofs.Ytjbgojccfkmlnaa
namespace Wi

instance (x y : Xt) : Decidable (Goes x y) := by unfold Goes; infer_instance
/-- Rising. -/
def Ris : List Xt → Prop
  | [] => True
  | [x] => 1 ≤ x.len
  | x :: y :: r => 1 ≤ x.len ∧ x.fin ≤ y.at_ ∧ Ris (y :: r)
theorem Can.ris : ∀ {l : List Xt}, Can l → Ris l
  | [], _ => trivial
  | [_], h => h
  | _ :: _ :: _, h => ⟨h.1, h.2.1, Can.ris h.2.2.2⟩
theorem Ris.pos {x : Xt} {r : List Xt} (h : Ris (x :: r)) : 1 ≤ x.len := by
  cases r with
  | nil => exact h
  | cons y r => exact h.1
/-- An extent, and the next one if it goes on in it. -/
def Xt.more (x y : Xt) : Xt := { x with len := x.len + y.len }
def jnx : Xt → List Xt → List Xt
  | x, [] => [x]
  | x, y :: r => if Goes x y then jnx (x.more y) r else x :: jnx y r
def joinL : List Xt → List Xt
  | [] => []
  | x :: r => jnx x r
theorem Ris.more {x y : Xt} {r : List Xt} (h : Ris (x :: y :: r)) (hg : Goes x y) : Ris (x.more y :: r) := by
  obtain ⟨h1, h2, h3⟩ := h
  obtain ⟨g1, _⟩ := hg
  cases r with
  | nil => show 1 ≤ x.len + y.len; omega
  | cons z r =>
    obtain ⟨k1, k2, k3⟩ := h3
    exact ⟨by show 1 ≤ x.len + y.len; omega, by show x.at_ + (x.len + y.len) ≤ z.at_; unfold Xt.fin at *; omega, k3⟩
theorem spot_more {x y : Xt} {r : List Xt} (h : Ris (x :: y :: r)) (hg : Goes x y) (i : Nat) : spot (x.more y :: r) i = spot (x :: y :: r) i := by
  obtain ⟨h1, h2, h3⟩ := h
  obtain ⟨g1, g2, g3⟩ := hg
  have hf : (x.more y).fin = y.fin := by show x.at_ + (x.len + y.len) = y.at_ + y.len; unfold Xt.fin at g1; omega
  have hy := h3.pos
  rcases Nat.lt_or_ge i x.at_ with a1 | a1
  · rw [spot, if_neg (by show ¬ (x.at_ ≤ i ∧ _); omega), spot, if_neg (by omega), spot, if_neg (by unfold Xt.fin at *; omega)]
  · rcases Nat.lt_or_ge i x.fin with a2 | a2
    · rw [spot_in (x := x.more y) a1 (by rw [hf]; unfold Xt.fin at *; omega), spot_in a1 a2]
      rfl
    · rw [spot_behind (x := x) a2]
      rcases Nat.lt_or_ge i y.fin with a3 | a3
      · rw [spot_in (x := x.more y) a1 (by rw [hf]; exact a3), spot_in (x := y) (by omega) a3]
        show some (x.seq, x.to + (i - x.at_)) = _
        rw [g2, g3, g1]
        congr 2
        unfold Xt.fin at *
        omega
      · rw [spot_behind (x := x.more y) (by rw [hf]; exact a3), spot_behind a3]
theorem jnx_spot : ∀ (r : List Xt) (x : Xt), Ris (x :: r) → ∀ i, spot (jnx x r) i = spot (x :: r) i
  | [], _, _, _ => rfl
  | y :: r, x, h, i => by
    unfold jnx
    split
    · rename_i hg
      rw [jnx_spot r (x.more y) (h.more hg) i, spot_more h hg]
    · rw [spot, spot, jnx_spot r y h.2.2 i]
theorem jnx_can : ∀ (r : List Xt) (x : Xt), Ris (x :: r) → ∃ z t, jnx x r = z :: t ∧ Can (z :: t) ∧ z.at_ = x.at_ ∧ z.seq = x.seq ∧ z.to = x.to
  | [], x, h => ⟨x, [], rfl, h, rfl, rfl, rfl⟩
  | y :: r, x, h => by
    unfold jnx
    split
    · rename_i hg
      exact jnx_can r (x.more y) (h.more hg)
    · rename_i hg
      obtain ⟨z, t, e, hc, e1, e2, e3⟩ := jnx_can r y h.2.2
      refine ⟨x, z :: t, by rw [e], ⟨h.1, by rw [e1]; exact h.2.1, fun g => hg ?_, hc⟩, rfl, rfl, rfl⟩
      obtain ⟨g1, g2, g3⟩ := g
      exact ⟨e1 ▸ g1, e2 ▸ g2, e3 ▸ g3⟩
theorem join_spot {l : List Xt} (h : Ris l) (i : Nat) : spot (joinL l) i = spot l i := by
  cases l with
  | nil => rfl
  | cons x r => exact jnx_spot r x h i
theorem join_can {l : List Xt} (h : Ris l) : Can (joinL l) := by
  cases l with
  | nil => trivial
  | cons x r =>
    obtain ⟨z, t, e, hc, _⟩ := jnx_can r x h
    show Can (jnx x r)
    rw [e]
    exact hc
/-- What is as few as can be stays as it is. -/
theorem join_same {l : List Xt} (h : Can l) : joinL l = l := can_eq (join_can h.ris) h fun i => join_spot h.ris i

end Wi
end Go.Proofs.Ytjbgojccfkmlnaa
