/- Plain facts on lists of spans (pairs of a first sector and a length): which may be, which lists are sets. -/
namespace Go.Proofs.Ythbgniclplfpgaa
namespace Sp

def mayB (x : Int × Int) : Bool := decide (0 ≤ x.1 ∧ 1 ≤ x.2 ∧ x.1 + x.2 ≤ 65536)
def errMay (x : Int × Int) : Int := if mayB x then 0 else 1
theorem errMay_ok {x : Int × Int} (h : mayB x = true) : errMay x = 0 := by simp [errMay, h]
theorem errMay_no {x : Int × Int} (h : mayB x = false) : errMay x = 1 := by simp [errMay, h]
theorem mayB_ok {x : Int × Int} (h : 0 ≤ x.1 ∧ 1 ≤ x.2 ∧ x.1 + x.2 ≤ 65536) : mayB x = true := by simp [mayB]; omega
theorem mayB_no {x : Int × Int} (h : ¬ (0 ≤ x.1 ∧ 1 ≤ x.2 ∧ x.1 + x.2 ≤ 65536)) : mayB x = false := by simp [mayB]; omega
theorem mayB_iff {x : Int × Int} : mayB x = true ↔ 0 ≤ x.1 ∧ 1 ≤ x.2 ∧ x.1 + x.2 ≤ 65536 := by simp [mayB]

/-- The k-th span (a default beyond the end). -/
def nth (xs : List (Int × Int)) (k : Nat) : Int × Int := xs.getD k (0, 0)
/-- The k-th span may be, and begins behind the end of the one ahead. -/
def okAt (xs : List (Int × Int)) (k : Nat) : Bool := mayB (nth xs k) && (decide (k = 0) || decide ((nth xs (k - 1)).1 + (nth xs (k - 1)).2 < (nth xs k).1))
/-- A list is a set. -/
def setB (xs : List (Int × Int)) : Bool := (List.range xs.length).all (okAt xs)
def allB (xs : List (Int × Int)) : Bool := xs.all mayB

theorem nth_eq {xs : List (Int × Int)} {k : Nat} (h : k < xs.length) : nth xs k = xs[k] := by simp [nth, h]
theorem nth_mem {xs : List (Int × Int)} {k : Nat} (h : k < xs.length) : nth xs k ∈ xs := by
  rw [nth_eq h]; exact List.getElem_mem h
theorem setB_true {xs : List (Int × Int)} (h : ∀ k, k < xs.length → okAt xs k = true) : setB xs = true := by
  unfold setB; rw [List.all_eq_true]; intro k hk; exact h k (by simpa using hk)
theorem setB_false {xs : List (Int × Int)} {k : Nat} (hk : k < xs.length) (h : okAt xs k = false) : setB xs = false := by
  unfold setB; rw [List.all_eq_false]; exact ⟨k, by simpa using hk, by simp [h]⟩
theorem setB_at {xs : List (Int × Int)} (h : setB xs = true) (k : Nat) (hk : k < xs.length) : okAt xs k = true := by
  unfold setB at h; rw [List.all_eq_true] at h; exact h k (by simpa using hk)
theorem okAt_no_may {xs : List (Int × Int)} {k : Nat} (h : mayB (nth xs k) = false) : okAt xs k = false := by simp [okAt, h]
theorem okAt_zero {xs : List (Int × Int)} (h : mayB (nth xs 0) = true) : okAt xs 0 = true := by simp [okAt, h]
theorem okAt_first {xs : List (Int × Int)} {k : Nat} (hk : k = 0) (h : mayB (nth xs k) = true) : okAt xs k = true := by subst hk; exact okAt_zero h
theorem ext_lt {p : Nat → Prop} {k : Nat} (h : ∀ j, j < k → p j) (hk : p k) : ∀ j, j < k + 1 → p j := fun j hj => by
  by_cases e : j = k
  · rw [e]; exact hk
  · exact h j (by omega)
theorem okAt_succ {xs : List (Int × Int)} {k : Nat} (h : mayB (nth xs (k + 1)) = true) (h' : (nth xs k).1 + (nth xs k).2 < (nth xs (k + 1)).1) : okAt xs (k + 1) = true := by simp [okAt, h, h']
theorem okAt_succ_no {xs : List (Int × Int)} {k : Nat} (h' : ¬ (nth xs k).1 + (nth xs k).2 < (nth xs (k + 1)).1) : okAt xs (k + 1) = false := by simp [okAt]; omega
theorem okAt_may {xs : List (Int × Int)} {k : Nat} (h : okAt xs k = true) : mayB (nth xs k) = true := by simp [okAt] at h; exact h.1
theorem okAt_lt {xs : List (Int × Int)} {k : Nat} (h : okAt xs (k + 1) = true) : (nth xs k).1 + (nth xs k).2 < (nth xs (k + 1)).1 := by simp [okAt] at h; exact h.2
theorem allB_of {xs : List (Int × Int)} (h : ∀ k, k < xs.length → mayB (nth xs k) = true) : allB xs = true := by
  unfold allB; rw [List.all_eq_true]; intro x hx
  obtain ⟨k, hk, rfl⟩ := List.getElem_of_mem hx
  have := h k hk; rwa [nth_eq hk] at this
theorem allB_no {xs : List (Int × Int)} {k : Nat} (hk : k < xs.length) (h : mayB (nth xs k) = false) : allB xs = false := by
  unfold allB; rw [List.all_eq_false]; exact ⟨_, nth_mem hk, by simp [h]⟩
theorem allB_at {xs : List (Int × Int)} (h : allB xs = true) {k : Nat} (hk : k < xs.length) : mayB (nth xs k) = true := by
  unfold allB at h; rw [List.all_eq_true] at h; exact h _ (nth_mem hk)
theorem allB_setB {xs : List (Int × Int)} (h : setB xs = true) : allB xs = true := allB_of fun k hk => okAt_may (setB_at h k hk)

/-- A sector is in one of the spans. -/
def wi (xs : List (Int × Int)) (i : Int) : Bool := xs.any fun x => decide (x.1 ≤ i) && decide (i < x.1 + x.2)
/-- How many sectors all spans have, those before place k. -/
def sumTo (xs : List (Int × Int)) : Nat → Int
  | 0 => 0
  | k + 1 => sumTo xs k + (nth xs k).2
def total (xs : List (Int × Int)) : Int := sumTo xs xs.length

theorem wi_true {xs : List (Int × Int)} {i : Int} {k : Nat} (hk : k < xs.length) (h : (nth xs k).1 ≤ i ∧ i < (nth xs k).1 + (nth xs k).2) : wi xs i = true := by
  unfold wi; rw [List.any_eq_true]; exact ⟨_, nth_mem hk, by simp [h]⟩
theorem wi_false {xs : List (Int × Int)} {i : Int} (h : ∀ k, k < xs.length → ¬ ((nth xs k).1 ≤ i ∧ i < (nth xs k).1 + (nth xs k).2)) : wi xs i = false := by
  unfold wi; rw [List.any_eq_false]; intro x hx
  obtain ⟨k, hk, rfl⟩ := List.getElem_of_mem hx
  have := h k hk; rw [nth_eq hk] at this
  simpa using this
theorem wi_get {xs : List (Int × Int)} {i : Int} (h : wi xs i = true) : ∃ k, k < xs.length ∧ (nth xs k).1 ≤ i ∧ i < (nth xs k).1 + (nth xs k).2 := by
  unfold wi at h; rw [List.any_eq_true] at h
  obtain ⟨x, hx, h⟩ := h
  obtain ⟨k, hk, rfl⟩ := List.getElem_of_mem hx
  refine ⟨k, hk, ?_⟩
  rw [nth_eq hk]; simpa using h

/-- In a set, what lies ahead ends ahead of what follows. -/
theorem set_lt {xs : List (Int × Int)} (h : setB xs = true) : ∀ (d k : Nat), k + d + 1 < xs.length → (nth xs k).1 + (nth xs k).2 < (nth xs (k + d + 1)).1
  | 0, k, hk => okAt_lt (setB_at h (k + 1) hk)
  | d + 1, k, hk => by
    have h1 := set_lt h d k (by omega)
    have h2 := okAt_lt (setB_at h (k + d + 1 + 1) (by omega))
    have h3 := mayB_iff.1 (okAt_may (setB_at h (k + d + 1) (by omega)))
    show _ < (nth xs (k + d + 1 + 1)).1
    omega
theorem set_lt' {xs : List (Int × Int)} (h : setB xs = true) {j k : Nat} (hjk : j < k) (hk : k < xs.length) : (nth xs j).1 + (nth xs j).2 < (nth xs k).1 := by
  have := set_lt h (k - j - 1) j (by omega)
  rwa [show j + (k - j - 1) + 1 = k by omega] at this
theorem sumTo_le {xs : List (Int × Int)} (h : setB xs = true) : ∀ k, k < xs.length → 0 ≤ sumTo xs k ∧ sumTo xs k ≤ (nth xs k).1
  | 0, hk => by have := mayB_iff.1 (okAt_may (setB_at h 0 hk)); simp [sumTo]; omega
  | k + 1, hk => by
    have h1 := sumTo_le h k (by omega)
    have h2 := okAt_lt (setB_at h (k + 1) hk)
    have h3 := mayB_iff.1 (okAt_may (setB_at h k (by omega)))
    simp only [sumTo]; omega
theorem sumTo_bd {xs : List (Int × Int)} (h : setB xs = true) (k : Nat) (hk : k ≤ xs.length) : 0 ≤ sumTo xs k ∧ sumTo xs k ≤ 65536 := by
  cases k with
  | zero => simp [sumTo]
  | succ k =>
    have h1 := sumTo_le h k (by omega)
    have h3 := mayB_iff.1 (okAt_may (setB_at h k (by omega)))
    simp only [sumTo]; omega

/-- How many spans end at a sector or ahead of it. -/
def placeN (xs : List (Int × Int)) (i : Int) : Nat := xs.countP fun x => decide (x.1 + x.2 ≤ i)
theorem placeN_eq {xs : List (Int × Int)} {i : Int} {k : Nat} (hk : k ≤ xs.length) (h1 : ∀ j, j < k → (nth xs j).1 + (nth xs j).2 ≤ i) (h2 : ∀ j, k ≤ j → j < xs.length → i < (nth xs j).1 + (nth xs j).2) : placeN xs i = k := by
  unfold placeN
  rw [← List.take_append_drop k xs, List.countP_append]
  have e1 : (xs.take k).countP (fun x => decide (x.1 + x.2 ≤ i)) = k := by
    rw [List.countP_eq_length.2 _, List.length_take, Nat.min_eq_left hk]
    intro x hx
    obtain ⟨j, hj, rfl⟩ := List.getElem_of_mem hx
    simp only [List.length_take] at hj
    have := h1 j (by omega)
    rw [nth_eq (by omega)] at this
    simpa using this
  have e2 : (xs.drop k).countP (fun x => decide (x.1 + x.2 ≤ i)) = 0 := by
    rw [List.countP_eq_zero]
    intro x hx
    obtain ⟨j, hj, rfl⟩ := List.getElem_of_mem hx
    simp only [List.length_drop] at hj
    have := h2 (k + j) (by omega) (by omega)
    rw [nth_eq (by omega)] at this
    simpa using this
  rw [e1, e2]; rfl
theorem placeN_le (xs : List (Int × Int)) (i : Int) : placeN xs i ≤ xs.length := List.countP_le_length
end Sp
end Go.Proofs.Ythbgniclplfpgaa
