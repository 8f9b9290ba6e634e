/- The set of sectors that are told one by one. -/
import Derived.Test.YthbgniclplfpgaaPe
namespace Go.Proofs.Ythbgniclplfpgaa
namespace Sp
/-- What Set has when k sectors are through. -/
structure SO (f : Nat → Bool) (k : Nat) (ys : List (Int × Int)) : Prop where
  set : setB ys = true
  mem : ∀ i : Int, wi ys i = true ↔ ∃ j : Nat, j < k ∧ i = (j : Int) ∧ f j = true
  ends : EndLe ys (k : Int)
  off : ∀ j, k = j + 1 → f j = false → EndLe ys (j : Int)
  on : ∀ j, k = j + 1 → f j = true → ∃ zs x, ys = zs ++ [x] ∧ x.1 + x.2 = (k : Int)
theorem SO.start (f : Nat → Bool) : SO f 0 [] := ⟨setB_nil, fun i => ⟨fun h => by simp [wi] at h, fun ⟨j, hj, _⟩ => by omega⟩, EndLe.nil _, fun j hj => by omega, fun j hj => by omega⟩
theorem SO.skip {f : Nat → Bool} {k : Nat} {ys : List (Int × Int)} (h : SO f k ys) (hf : f k = false) : SO f (k + 1) ys :=
  ⟨h.set, fun i => by
    rw [h.mem]
    constructor
    · rintro ⟨j, hj, hi, hh⟩; exact ⟨j, by omega, hi, hh⟩
    · rintro ⟨j, hj, hi, hh⟩
      by_cases e : j = k
      · rw [e, hf] at hh; cases hh
      · exact ⟨j, by omega, hi, hh⟩, h.ends.mono (by omega), fun j hj _ => by
    obtain rfl : j = k := by omega
    exact h.ends, fun j hj hh => by
    obtain rfl : j = k := by omega
    rw [hf] at hh; cases hh⟩
theorem SO.memStep {f : Nat → Bool} {k : Nat} {ys ys' : List (Int × Int)} (h : SO f k ys) (hf : f k = true) (hw : ∀ i, wi ys' i = true ↔ wi ys i = true ∨ i = (k : Int)) (i : Int) : wi ys' i = true ↔ ∃ j : Nat, j < k + 1 ∧ i = (j : Int) ∧ f j = true := by
  rw [hw, h.mem]
  constructor
  · rintro (⟨j, hj, hi, hh⟩ | hi)
    · exact ⟨j, by omega, hi, hh⟩
    · exact ⟨k, by omega, hi, hf⟩
  · rintro ⟨j, hj, hi, hh⟩
    by_cases e : j = k
    · subst e; exact .inr hi
    · exact .inl ⟨j, by omega, hi, hh⟩
/-- A sector that begins a run. -/
theorem SO.fresh {f : Nat → Bool} {k : Nat} {ys : List (Int × Int)} (h : SO f k ys) (hf : f k = true) (hp : ∀ j, k = j + 1 → f j = false) (hk : k < 65536) : SO f (k + 1) (ys ++ [((k : Int), 1)]) := by
  have hE : ∃ E, E < (k : Int) ∧ EndLe ys E := by
    cases k with
    | zero =>
      refine ⟨-1, by omega, fun j hj => ?_⟩
      have hm := mayB_iff.1 (okAt_may (setB_at h.set j hj))
      have := h.ends j hj
      omega
    | succ k => exact ⟨k, by omega, h.off k rfl (hp k rfl)⟩
  obtain ⟨E, hE1, hE2⟩ := hE
  refine ⟨setB_snoc h.set (mayB_iff.2 ⟨by simp, by simp, by simp; omega⟩) hE2 hE1, h.memStep hf fun i => ?_, (h.ends.mono (by omega)).snoc (by simp), fun j hj hh => ?_, fun j hj _ => ⟨ys, _, rfl, by simp⟩⟩
  · rw [wi_snoc]; unfold Has1; simp only
    constructor
    · rintro (h1 | h1)
      · exact .inl h1
      · exact .inr (by omega)
    · rintro (h1 | h1)
      · exact .inl h1
      · exact .inr (by omega)
  · obtain rfl : j = k := by omega
    rw [hf] at hh; cases hh
/-- A sector that goes on with one. -/
theorem SO.more {f : Nat → Bool} {k : Nat} {zs : List (Int × Int)} {x : Int × Int} (h : SO f k (zs ++ [x])) (hf : f k = true) (hx : x.1 + x.2 = (k : Int)) (hk : k < 65536) : SO f (k + 1) (zs ++ [(x.1, x.2 + 1)]) := by
  have mx := mayB_iff.1 (setB_lastMay h.set)
  have hz : EndLe zs (x.1 - 1) := setB_lastEnd h.set
  refine ⟨setB_snoc (setB_left h.set) (mayB_iff.2 ⟨by simp; omega, by simp; omega, by simp; omega⟩) hz (by simp; omega), h.memStep hf fun i => ?_, (hz.mono (by omega)).snoc (by simp; omega), fun j hj hh => ?_, fun j hj _ => ⟨zs, _, rfl, by simp; omega⟩⟩
  · rw [wi_snoc, wi_snoc]; unfold Has1; simp only
    constructor
    · rintro (h1 | h1)
      · exact .inl (.inl h1)
      · rcases Int.lt_or_le i (x.1 + x.2) with h2 | h2
        · exact .inl (.inr ⟨h1.1, h2⟩)
        · exact .inr (by omega)
    · rintro ((h1 | h1) | h1)
      · exact .inl h1
      · exact .inr (by omega)
      · exact .inr (by omega)
  · obtain rfl : j = k := by omega
    rw [hf] at hh; cases hh
end Sp
end Go.Proofs.Ythbgniclplfpgaa
