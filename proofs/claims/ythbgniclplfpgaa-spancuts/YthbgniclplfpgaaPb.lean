/- Places in a set. -/
import Derived.Test.YthbgniclplfpgaaPa
namespace Go.Proofs.Ythbgniclplfpgaa
namespace Sp
/-- In a set the spans that end at a sector or ahead of it stand first. -/
theorem placeN_split {xs : List (Int × Int)} (h : setB xs = true) (i : Int) : ∃ k, k ≤ xs.length ∧ (∀ j, j < k → (nth xs j).1 + (nth xs j).2 ≤ i) ∧ (∀ j, k ≤ j → j < xs.length → i < (nth xs j).1 + (nth xs j).2) := by
  have main : ∀ m, m ≤ xs.length → ∃ k, k ≤ m ∧ (∀ j, j < k → (nth xs j).1 + (nth xs j).2 ≤ i) ∧ (∀ j, k ≤ j → j < m → i < (nth xs j).1 + (nth xs j).2) := by
    intro m
    induction m with
    | zero => intro _; exact ⟨0, Nat.le_refl _, by omega, by omega⟩
    | succ m ih =>
      intro hm
      obtain ⟨k, hk, h1, h2⟩ := ih (by omega)
      by_cases hc : (nth xs m).1 + (nth xs m).2 ≤ i
      · refine ⟨m + 1, Nat.le_refl _, fun j hj => ?_, by omega⟩
        rcases Nat.lt_or_ge j m with hjm | hjm
        · have := set_lt' h hjm (by omega); have := mayB_iff.1 (okAt_may (setB_at h m (by omega))); omega
        · rw [show j = m by omega]; exact hc
      · refine ⟨k, by omega, h1, fun j hj hj' => ?_⟩
        rcases Nat.lt_or_ge j m with hjm | hjm
        · exact h2 j hj hjm
        · rw [show j = m by omega]; omega
  exact main _ (Nat.le_refl _)
theorem placeN_lt {xs : List (Int × Int)} (h : setB xs = true) {k : Nat} {i : Int} (hk : k < placeN xs i) : (nth xs k).1 + (nth xs k).2 ≤ i := by
  obtain ⟨m, hm, h1, h2⟩ := placeN_split h i
  rw [placeN_eq hm h1 h2] at hk
  exact h1 k hk
theorem placeN_ge {xs : List (Int × Int)} (h : setB xs = true) {i : Int} (hk : placeN xs i < xs.length) : i < (nth xs (placeN xs i)).1 + (nth xs (placeN xs i)).2 := by
  obtain ⟨m, hm, h1, h2⟩ := placeN_split h i
  rw [placeN_eq hm h1 h2] at hk ⊢
  exact h2 m (Nat.le_refl _) hk
theorem placeN_ge' {xs : List (Int × Int)} (h : setB xs = true) {i : Int} {k : Nat} (hp : placeN xs i ≤ k) (hk : k < xs.length) : i < (nth xs k).1 + (nth xs k).2 := by
  obtain ⟨m, hm, h1, h2⟩ := placeN_split h i
  rw [placeN_eq hm h1 h2] at hp
  exact h2 k hp hk
end Sp
end Go.Proofs.Ythbgniclplfpgaa
