/- Joining spans that begin in rising order. -/
import Derived.Test.YthbgniclplfpgaaPd
namespace Go.Proofs.Ythbgniclplfpgaa
namespace Sp
/-- Each begins no later than those behind it. -/
def Rises (xs : List (Int × Int)) : Prop := ∀ i j, i < j → j < xs.length → (nth xs i).1 ≤ (nth xs j).1
/-- What is joined when k spans are through. -/
structure JO (xs : List (Int × Int)) (k : Nat) (ys : List (Int × Int)) : Prop where
  set : setB ys = true
  mem : ∀ i, wi ys i = true ↔ Upto xs k i
  starts : k < xs.length → ∀ j, j < ys.length → (nth ys j).1 ≤ (nth xs k).1
theorem JO.start (xs : List (Int × Int)) : JO xs 0 [] := ⟨setB_nil, fun i => ⟨fun h => by simp [wi] at h, fun h => absurd h upto_zero⟩, fun _ j hj => by simp at hj⟩
theorem setB_left {xs ys : List (Int × Int)} (h : setB (xs ++ ys) = true) : setB xs = true := setB_true fun k hk => by
  rw [← okAt_left (ys := ys) hk]; exact setB_at h k (by simp; omega)
theorem setB_lastMay {xs : List (Int × Int)} {x : Int × Int} (h : setB (xs ++ [x]) = true) : mayB x = true := by
  have := okAt_may (setB_at h xs.length (by simp)); rwa [nth_last] at this
theorem setB_lastEnd {xs : List (Int × Int)} {x : Int × Int} (h : setB (xs ++ [x]) = true) : EndLe xs (x.1 - 1) := fun k hk => by
  have := set_lt' h (j := k) (k := xs.length) hk (by simp)
  rw [nth_last, nth_left hk] at this
  omega
theorem setB_endLe {xs : List (Int × Int)} {x : Int × Int} (h : setB (xs ++ [x]) = true) : EndLe (xs ++ [x]) (x.1 + x.2) := by
  have := mayB_iff.1 (setB_lastMay h)
  exact ((setB_lastEnd h).mono (by omega)).snoc (Int.le_refl _)
theorem JO.first {xs : List (Int × Int)} {k : Nat} (h : JO xs k []) (ha : allB xs = true) (hr : Rises xs) (hk : k < xs.length) : JO xs (k + 1) [nth xs k] :=
  ⟨setB_one (allB_at ha hk), fun i => by
    rw [upto_succ, ← h.mem]
    simp [wi, Has1], fun hk' j hj => by
    have : j = 0 := by simpa using hj
    subst this
    exact hr k (k + 1) (by omega) hk'⟩
theorem JO.new {xs zs : List (Int × Int)} {x : Int × Int} {k : Nat} (h : JO xs k (zs ++ [x])) (ha : allB xs = true) (hr : Rises xs) (hk : k < xs.length) (hlt : x.1 + x.2 < (nth xs k).1) : JO xs (k + 1) (zs ++ [x] ++ [nth xs k]) :=
  ⟨setB_snoc h.set (allB_at ha hk) (setB_endLe h.set) hlt, fun i => by rw [wi_snoc, h.mem, upto_succ], fun hk' j hj => by
    have hrk := hr k (k + 1) (by omega) hk'
    rcases Nat.lt_or_ge j (zs ++ [x]).length with h1 | h1
    · rw [nth_left h1]; have := h.starts hk j h1; omega
    · obtain rfl : j = (zs ++ [x]).length := by simp only [List.length_append, List.length_cons, List.length_nil] at *; omega
      rw [nth_last]; exact hrk⟩
theorem JO.wide {xs zs : List (Int × Int)} {x : Int × Int} {k : Nat} (h : JO xs k (zs ++ [x])) (ha : allB xs = true) (hr : Rises xs) (hk : k < xs.length) (hge : ¬ x.1 + x.2 < (nth xs k).1) :
    JO xs (k + 1) (zs ++ [(x.1, max (x.1 + x.2) ((nth xs k).1 + (nth xs k).2) - x.1)]) := by
  have mx := mayB_iff.1 (setB_lastMay h.set)
  have ms := mayB_iff.1 (allB_at ha hk)
  have hst := h.starts hk zs.length (by simp)
  rw [nth_last] at hst
  refine ⟨setB_snoc (setB_left h.set) (mayB_iff.2 ⟨by simp; omega, by simp; omega, by simp; omega⟩) (setB_lastEnd h.set) (by simp; omega), fun i => ?_, fun hk' j hj => ?_⟩
  · rw [upto_succ, ← h.mem, wi_snoc, wi_snoc]
    unfold Has1
    simp only
    constructor
    · rintro (h1 | h1)
      · exact .inl (.inl h1)
      · rcases Int.lt_or_le i (x.1 + x.2) with h2 | h2
        · exact .inl (.inr ⟨h1.1, h2⟩)
        · exact .inr (by omega)
    · rintro ((h1 | h1) | h1)
      · exact .inl h1
      · exact .inr (by omega)
      · exact .inr (by omega)
  · have hrk := hr k (k + 1) (by omega) hk'
    rcases Nat.lt_or_ge j zs.length with h1 | h1
    · rw [nth_left h1]; have := h.starts hk j (by simp; omega); rw [nth_left h1] at this; omega
    · obtain rfl : j = zs.length := by simp at hj; omega
      rw [nth_last]; simp only; omega
theorem wi_perm {xs ys : List (Int × Int)} (h : ys.Perm xs) (i : Int) : wi ys i = wi xs i := by
  unfold wi
  rw [Bool.eq_iff_iff, List.any_eq_true, List.any_eq_true]
  exact ⟨fun ⟨x, hx, hh⟩ => ⟨x, h.mem_iff.1 hx, hh⟩, fun ⟨x, hx, hh⟩ => ⟨x, h.mem_iff.2 hx, hh⟩⟩
theorem allB_perm {xs ys : List (Int × Int)} (h : ys.Perm xs) (ha : allB xs = true) : allB ys = true := by
  unfold allB at *
  rw [List.all_eq_true] at *
  exact fun x hx => ha x (h.mem_iff.1 hx)
end Sp
end Go.Proofs.Ythbgniclplfpgaa
