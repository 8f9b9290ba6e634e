/- What Meet and Cut have when so many spans are through. -/
import Derived.Test.YthbgniclplfpgaaPc
namespace Go.Proofs.Ythbgniclplfpgaa
namespace Sp
/-- The spans of a set that have a sector of s are those from place f on, ahead of place t. -/
structure NearP (xs : List (Int × Int)) (s : Int × Int) (f t : Nat) : Prop where
  le : f ≤ t
  len : t ≤ xs.length
  lo : ∀ j, j < f → (nth xs j).1 + (nth xs j).2 ≤ s.1
  mid : ∀ j, f ≤ j → j < t → s.1 < (nth xs j).1 + (nth xs j).2 ∧ (nth xs j).1 < s.1 + s.2
  hi : ∀ j, t ≤ j → j < xs.length → s.1 + s.2 ≤ (nth xs j).1

theorem placeN_mono {xs : List (Int × Int)} (h : setB xs = true) {i k : Int} (hik : i ≤ k) : placeN xs i ≤ placeN xs k := by
  rcases Nat.lt_or_ge (placeN xs k) (placeN xs i) with hl | hl
  · have h1 := placeN_lt h hl
    have := placeN_le xs i
    have h2 := placeN_ge h (i := k) (by omega)
    omega
  · exact hl
theorem near_in {xs : List (Int × Int)} (h : setB xs = true) {s : Int × Int} (hs : mayB s = true) (hl : placeN xs (s.1 + s.2) < xs.length) (hc : (nth xs (placeN xs (s.1 + s.2))).1 < s.1 + s.2) : NearP xs s (placeN xs s.1) (placeN xs (s.1 + s.2) + 1) := by
  have hs' := mayB_iff.1 hs
  have hm := placeN_mono h (i := s.1) (k := s.1 + s.2) (by omega)
  refine ⟨by omega, hl, fun j hj => placeN_lt h hj, fun j h1 h2 => ⟨placeN_ge' h h1 (by omega), ?_⟩, fun j h1 h2 => ?_⟩
  · rcases Nat.lt_or_ge j (placeN xs (s.1 + s.2)) with h3 | h3
    · have := set_lt' h h3 hl; have := mayB_iff.1 (okAt_may (setB_at h j (by omega))); omega
    · rw [show j = placeN xs (s.1 + s.2) by omega]; exact hc
  · have := set_lt' h (show placeN xs (s.1 + s.2) < j by omega) h2
    have := placeN_ge h hl
    omega
theorem near_out {xs : List (Int × Int)} (h : setB xs = true) {s : Int × Int} (hs : mayB s = true) (hc : ¬ (placeN xs (s.1 + s.2) < xs.length ∧ (nth xs (placeN xs (s.1 + s.2))).1 < s.1 + s.2)) : NearP xs s (placeN xs s.1) (placeN xs (s.1 + s.2)) := by
  have hs' := mayB_iff.1 hs
  have hm := placeN_mono h (i := s.1) (k := s.1 + s.2) (by omega)
  have hle := placeN_le xs (s.1 + s.2)
  refine ⟨hm, hle, fun j hj => placeN_lt h hj, fun j h1 h2 => ⟨placeN_ge' h h1 (by omega), ?_⟩, fun j h1 h2 => ?_⟩
  · have := placeN_lt h h2; have := mayB_iff.1 (okAt_may (setB_at h j (by omega))); omega
  · rcases Nat.lt_or_ge (placeN xs (s.1 + s.2)) j with h3 | h3
    · have := set_lt' h h3 h2; have := placeN_ge h (i := s.1 + s.2) (by omega); omega
    · obtain rfl : j = placeN xs (s.1 + s.2) := by omega
      omega


theorem set_at_ge {xs : List (Int × Int)} (h : setB xs = true) : ∀ k, k < xs.length → (k : Int) ≤ (nth xs k).1
  | 0, hk => by have := mayB_iff.1 (okAt_may (setB_at h 0 hk)); omega
  | k + 1, hk => by
    have h1 := set_at_ge h k (by omega)
    have h2 := okAt_lt (setB_at h (k + 1) hk)
    have h3 := mayB_iff.1 (okAt_may (setB_at h k (by omega)))
    omega
theorem set_length {xs : List (Int × Int)} (h : setB xs = true) : xs.length ≤ 65536 := by
  rcases Nat.eq_zero_or_pos xs.length with h0 | h0
  · omega
  · have h1 := set_at_ge h (xs.length - 1) (by omega)
    have h3 := mayB_iff.1 (okAt_may (setB_at h (xs.length - 1) (by omega)))
    omega

/-- No span that is near is left out: a sector of s is in the set just if it is in one that is near. -/
theorem NearP.wi {zs : List (Int × Int)} {s : Int × Int} {f t : Nat} (h : NearP zs s f t) {i : Int} (hi : Has1 s i) : Sp.wi zs i = true ↔ ∃ j, f ≤ j ∧ j < t ∧ Has1 (nth zs j) i := by
  rw [wi_iff]
  constructor
  · rintro ⟨j, hj, hh⟩
    refine ⟨j, ?_, ?_, hh⟩
    · rcases Nat.lt_or_ge j f with h1 | h1
      · have := h.lo j h1; unfold Has1 at *; omega
      · exact h1
    · rcases Nat.lt_or_ge j t with h1 | h1
      · exact h1
      · have := h.hi j h1 hj; unfold Has1 at *; omega
  · rintro ⟨j, _, h2, hh⟩
    exact ⟨j, Nat.lt_of_lt_of_le h2 h.len, hh⟩

/-- Meet, when k spans are through. -/
structure MO (xs zs : List (Int × Int)) (k : Nat) (ys : List (Int × Int)) : Prop where
  set : setB ys = true
  mem : ∀ i, wi ys i = true ↔ Upto xs k i ∧ wi zs i = true
  lt : k < xs.length → ∃ E, E < (nth xs k).1 ∧ EndLe ys E
/-- .. and of the k-th one so many that are near. -/
structure MI (xs zs : List (Int × Int)) (k f m : Nat) (ys : List (Int × Int)) : Prop where
  set : setB ys = true
  mem : ∀ i, wi ys i = true ↔ (Upto xs k i ∧ wi zs i = true) ∨ (Has1 (nth xs k) i ∧ ∃ j, f ≤ j ∧ j < f + m ∧ Has1 (nth zs j) i)
  ends : ∃ E, EndLe ys E ∧ E ≤ (nth xs k).1 + (nth xs k).2 ∧ (m = 0 → E < (nth xs k).1) ∧ (∀ j, m = j + 1 → E ≤ (nth zs (f + j)).1 + (nth zs (f + j)).2)
theorem MO.start (xs zs : List (Int × Int)) (hx : setB xs = true) : MO xs zs 0 [] :=
  ⟨setB_nil, fun i => ⟨fun h => by simp [wi] at h, fun h => absurd h.1 upto_zero⟩, fun h => ⟨-1, by have := mayB_iff.1 (okAt_may (setB_at hx 0 h)); omega, EndLe.nil _⟩⟩
theorem MO.inner {xs zs ys : List (Int × Int)} {k : Nat} (h : MO xs zs k ys) (hx : setB xs = true) (hk : k < xs.length) (f : Nat) : MI xs zs k f 0 ys :=
  ⟨h.set, fun i => by rw [h.mem]; exact ⟨.inl, fun h' => h'.elim id fun ⟨_, j, h1, h2, _⟩ => by omega⟩, by
    obtain ⟨E, h1, h2⟩ := h.lt hk
    have := mayB_iff.1 (okAt_may (setB_at hx k hk))
    exact ⟨E, h2, by omega, fun _ => h1, fun j hj => by omega⟩⟩
theorem MI.step {xs zs ys : List (Int × Int)} {k f m t : Nat} (h : MI xs zs k f m ys) (hx : setB xs = true) (hz : setB zs = true) (hk : k < xs.length) (hN : NearP zs (nth xs k) f t) (hm : f + m < t) :
    MI xs zs k f (m + 1) (addF ys (max (nth xs k).1 (nth zs (f + m)).1) (min ((nth xs k).1 + (nth xs k).2) ((nth zs (f + m)).1 + (nth zs (f + m)).2))) := by
  have hl := hN.len
  have ms := mayB_iff.1 (okAt_may (setB_at hx k hk))
  have mo := mayB_iff.1 (okAt_may (setB_at hz (f + m) (by omega)))
  obtain ⟨E, e1, e2, e3, e4⟩ := h.ends
  have hE : E < max (nth xs k).1 (nth zs (f + m)).1 := by
    rcases Nat.eq_zero_or_pos m with h0 | h0
    · have := e3 h0; omega
    · obtain ⟨j, rfl⟩ : ∃ j, m = j + 1 := ⟨m - 1, by omega⟩
      have := e4 j rfl
      have := set_lt' hz (show f + j < f + (j + 1) by omega) (by omega)
      omega
  refine ⟨addF_set h.set e1 hE (by omega) (by omega), fun i => ?_, ?_⟩
  · rw [addF_wi, h.mem]
    constructor
    · rintro ((h1 | ⟨h1, j, h2, h3, h4⟩) | h1)
      · exact .inl h1
      · exact .inr ⟨h1, j, h2, by omega, h4⟩
      · exact .inr ⟨by unfold Has1; omega, f + m, by omega, by omega, by unfold Has1; omega⟩
    · rintro (h1 | ⟨h1, j, h2, h3, h4⟩)
      · exact .inl (.inl h1)
      · by_cases e : j = f + m
        · subst e; unfold Has1 at *; exact .inr (by omega)
        · exact .inl (.inr ⟨h1, j, h2, by omega, h4⟩)
  · refine ⟨max E (min ((nth xs k).1 + (nth xs k).2) ((nth zs (f + m)).1 + (nth zs (f + m)).2)), addF_end e1 (by omega) (by omega), by omega, fun h0 => by omega, fun j hj => ?_⟩
    obtain rfl : j = m := by omega
    rcases Nat.eq_zero_or_pos j with h0 | h0
    · have := e3 h0
      have := hN.mid (f + j) (by omega) hm
      omega
    · obtain ⟨j', rfl⟩ : ∃ j', j = j' + 1 := ⟨j - 1, by omega⟩
      have := e4 j' rfl
      have := set_lt' hz (show f + j' < f + (j' + 1) by omega) (by omega)
      omega
theorem MI.done {xs zs ys : List (Int × Int)} {k f t : Nat} (h : MI xs zs k f (t - f) ys) (hx : setB xs = true) (_hk : k < xs.length) (hN : NearP zs (nth xs k) f t) : MO xs zs (k + 1) ys :=
  ⟨h.set, fun i => by
    rw [h.mem, upto_succ, show f + (t - f) = t by have := hN.le; omega]
    constructor
    · rintro (h1 | ⟨h1, h2⟩)
      · exact ⟨.inl h1.1, h1.2⟩
      · exact ⟨.inr h1, (hN.wi h1).2 h2⟩
    · rintro ⟨h1 | h1, h2⟩
      · exact .inl ⟨h1, h2⟩
      · exact .inr ⟨h1, (hN.wi h1).1 h2⟩, fun hk' => by
    obtain ⟨E, e1, e2, _⟩ := h.ends
    exact ⟨E, by have := set_lt' hx (show k < k + 1 by omega) hk'; omega, e1⟩⟩
theorem MO.all {xs zs ys : List (Int × Int)} (h : MO xs zs xs.length ys) : setB ys = true ∧ ∀ i, wi ys i = true ↔ wi xs i = true ∧ wi zs i = true :=
  ⟨h.set, fun i => by rw [h.mem, upto_all]⟩

/-- Cut, when k spans are through. -/
structure CO (xs zs : List (Int × Int)) (k : Nat) (ys : List (Int × Int)) : Prop where
  set : setB ys = true
  mem : ∀ i, wi ys i = true ↔ Upto xs k i ∧ ¬ wi zs i = true
  lt : k < xs.length → ∃ E, E < (nth xs k).1 ∧ EndLe ys E
/-- .. and of the k-th one so many that are near: A is the first sector that is not looked at yet. -/
structure CI (xs zs : List (Int × Int)) (k f m : Nat) (A : Int) (ys : List (Int × Int)) : Prop where
  set : setB ys = true
  mem : ∀ i, wi ys i = true ↔ (Upto xs k i ∧ ¬ wi zs i = true) ∨ ((nth xs k).1 ≤ i ∧ i < A ∧ i < (nth xs k).1 + (nth xs k).2 ∧ ¬ wi zs i = true)
  ge : (nth xs k).1 ≤ A ∧ A ≤ 65536
  at0 : m = 0 → A = (nth xs k).1
  at1 : ∀ j, m = j + 1 → A = (nth zs (f + j)).1 + (nth zs (f + j)).2
  ends : ∃ E, EndLe ys E ∧ E < A ∧ E ≤ (nth xs k).1 + (nth xs k).2
theorem CO.start (xs zs : List (Int × Int)) (hx : setB xs = true) : CO xs zs 0 [] :=
  ⟨setB_nil, fun i => ⟨fun h => by simp [wi] at h, fun h => absurd h.1 upto_zero⟩, fun h => ⟨-1, by have := mayB_iff.1 (okAt_may (setB_at hx 0 h)); omega, EndLe.nil _⟩⟩
theorem CO.inner {xs zs ys : List (Int × Int)} {k : Nat} (h : CO xs zs k ys) (hx : setB xs = true) (hk : k < xs.length) (f : Nat) : CI xs zs k f 0 (nth xs k).1 ys := by
  have ms := mayB_iff.1 (okAt_may (setB_at hx k hk))
  obtain ⟨E, h1, h2⟩ := h.lt hk
  exact ⟨h.set, fun i => by rw [h.mem]; exact ⟨.inl, fun h' => h'.elim id fun ⟨_, _, _⟩ => by omega⟩, by omega, fun _ => rfl, fun j hj => by omega, ⟨E, h2, h1, by omega⟩⟩
/-- Between two neighbours of a set there is no sector of it. -/
theorem gap {zs : List (Int × Int)} (hz : setB zs = true) {j : Nat} {i : Int} (hj : j + 1 < zs.length) (h1 : (nth zs j).1 + (nth zs j).2 ≤ i) (h2 : i < (nth zs (j + 1)).1) : ¬ wi zs i = true := fun h => by
  obtain ⟨m, hm, hh⟩ := wi_iff.1 h
  unfold Has1 at hh
  rcases Nat.lt_or_ge j m with h3 | h3
  · rcases Nat.lt_or_ge (j + 1) m with h4 | h4
    · have := set_lt' hz h4 hm; have := mayB_iff.1 (okAt_may (setB_at hz (j + 1) hj)); omega
    · rw [show m = j + 1 by omega] at hh; omega
  · rcases Nat.lt_or_ge m j with h4 | h4
    · have := set_lt' hz h4 (by omega); have := mayB_iff.1 (okAt_may (setB_at hz j (by omega))); omega
    · rw [show m = j by omega] at hh; omega
/-- From A on, ahead of the next one that is near, no sector of s is in the set. -/
theorem CI.free {xs zs ys : List (Int × Int)} {k f m t : Nat} {A : Int} (h : CI xs zs k f m A ys) (hz : setB zs = true) (hN : NearP zs (nth xs k) f t) (hm : f + m ≤ t) {i : Int} (h1 : A ≤ i) (h2 : i < (nth xs k).1 + (nth xs k).2) (h3 : f + m < t → i < (nth zs (f + m)).1) : ¬ wi zs i = true := fun hw => by
  have hge := h.ge
  obtain ⟨j, hj1, hj2, hh⟩ := (hN.wi (i := i) ⟨by omega, h2⟩).1 hw
  have hl := hN.len
  unfold Has1 at hh
  rcases Nat.lt_or_ge j (f + m) with h4 | h4
  · obtain ⟨q, rfl⟩ : ∃ q, m = q + 1 := ⟨m - 1, by omega⟩
    have hA := h.at1 q rfl
    rcases Nat.lt_or_ge j (f + q) with h5 | h5
    · have := set_lt' hz h5 (by omega); have := mayB_iff.1 (okAt_may (setB_at hz (f + q) (by omega))); omega
    · rw [show j = f + q by omega] at hh; omega
  · have := h3 (by omega)
    rcases Nat.lt_or_ge (f + m) j with h5 | h5
    · have := set_lt' hz h5 (by omega); have := mayB_iff.1 (okAt_may (setB_at hz (f + m) (by omega))); omega
    · rw [show j = f + m by omega] at hh; omega
theorem CI.step {xs zs ys : List (Int × Int)} {k f m t : Nat} {A : Int} (h : CI xs zs k f m A ys) (hx : setB xs = true) (hz : setB zs = true) (hk : k < xs.length) (hN : NearP zs (nth xs k) f t) (hm : f + m < t) :
    CI xs zs k f (m + 1) ((nth zs (f + m)).1 + (nth zs (f + m)).2) (addF ys A (nth zs (f + m)).1) := by
  have hl := hN.len
  have ms := mayB_iff.1 (okAt_may (setB_at hx k hk))
  have mo := mayB_iff.1 (okAt_may (setB_at hz (f + m) (by omega)))
  have hmid := hN.mid (f + m) (by omega) hm
  obtain ⟨E, e1, e2, e3⟩ := h.ends
  have hge := h.ge
  refine ⟨addF_set h.set e1 e2 (by omega) (by omega), fun i => ?_, by omega, fun h0 => by omega, fun j hj => by rw [show j = m by omega], ⟨max E (nth zs (f + m)).1, addF_end e1 (by omega) (by omega), ?_, by omega⟩⟩
  · rw [addF_wi, h.mem]
    have self : ∀ i, (nth zs (f + m)).1 ≤ i → i < (nth zs (f + m)).1 + (nth zs (f + m)).2 → wi zs i = true := fun i h1 h2 => wi_iff.2 ⟨f + m, by omega, h1, h2⟩
    constructor
    · rintro ((h1 | ⟨h1, h2, h3, h4⟩) | h1)
      · exact .inl h1
      · refine .inr ⟨h1, ?_, h3, h4⟩
        rcases Int.lt_or_le i ((nth zs (f + m)).1 + (nth zs (f + m)).2) with h5 | h5
        · exact h5
        · exfalso
          rcases Nat.eq_zero_or_pos m with h0 | h0
          · have := h.at0 h0; omega
          · obtain ⟨q, rfl⟩ : ∃ q, m = q + 1 := ⟨m - 1, by omega⟩
            have := h.at1 q rfl
            have := set_lt' hz (show f + q < f + (q + 1) by omega) (by omega)
            omega
      · exact .inr ⟨by omega, by omega, by omega, h.free hz hN (by omega) h1.1 (by omega) (fun _ => h1.2)⟩
    · rintro (h1 | ⟨h1, h2, h3, h4⟩)
      · exact .inl (.inl h1)
      · rcases Int.lt_or_le i A with h5 | h5
        · exact .inl (.inr ⟨h1, h5, h3, h4⟩)
        · rcases Int.lt_or_le i (nth zs (f + m)).1 with h6 | h6
          · exact .inr ⟨h5, h6⟩
          · exact absurd (self i h6 h2) h4
  · rcases Nat.eq_zero_or_pos m with h0 | h0
    · have := h.at0 h0; omega
    · obtain ⟨q, rfl⟩ : ∃ q, m = q + 1 := ⟨m - 1, by omega⟩
      have := h.at1 q rfl
      have := set_lt' hz (show f + q < f + (q + 1) by omega) (by omega)
      omega
theorem CI.done {xs zs ys : List (Int × Int)} {k f t : Nat} {A : Int} (h : CI xs zs k f (t - f) A ys) (hx : setB xs = true) (hz : setB zs = true) (hk : k < xs.length) (hN : NearP zs (nth xs k) f t) :
    CO xs zs (k + 1) (addF ys A ((nth xs k).1 + (nth xs k).2)) := by
  have ms := mayB_iff.1 (okAt_may (setB_at hx k hk))
  obtain ⟨E, e1, e2, e3⟩ := h.ends
  have hge := h.ge
  have hle := hN.le
  refine ⟨addF_set h.set e1 e2 (by omega) (by omega), fun i => ?_, fun hk' => ⟨_, by have := set_lt' hx (show k < k + 1 by omega) hk'; omega, addF_end e1 e3 (Int.le_refl _)⟩⟩
  rw [addF_wi, h.mem, upto_succ]
  constructor
  · rintro ((h1 | ⟨h1, h2, h3, h4⟩) | h1)
    · exact ⟨.inl h1.1, h1.2⟩
    · exact ⟨.inr ⟨h1, h3⟩, h4⟩
    · exact ⟨.inr ⟨by omega, h1.2⟩, h.free hz hN (by omega) h1.1 h1.2 (fun _ => by omega)⟩
  · rintro ⟨h1 | h1, h2⟩
    · exact .inl (.inl ⟨h1, h2⟩)
    · unfold Has1 at h1
      rcases Int.lt_or_le i A with h5 | h5
      · exact .inl (.inr ⟨h1.1, h5, h1.2, h2⟩)
      · exact .inr ⟨h5, h1.2⟩
theorem CO.all {xs zs ys : List (Int × Int)} (h : CO xs zs xs.length ys) : setB ys = true ∧ ∀ i, wi ys i = true ↔ wi xs i = true ∧ ¬ wi zs i = true :=
  ⟨h.set, fun i => by rw [h.mem, upto_all]⟩
end Sp
end Go.Proofs.Ythbgniclplfpgaa
