/- Sets that grow behind their end; what Meet and Cut make, step by step; a set of sectors is one list alone. -/
import Derived.Test.YthbgniclplfpgaaPb
namespace Go.Proofs.Ythbgniclplfpgaa
namespace Sp
/-- Sector i is one of the span's. -/
def Has1 (x : Int × Int) (i : Int) : Prop := x.1 ≤ i ∧ i < x.1 + x.2
theorem wi_iff {xs : List (Int × Int)} {i : Int} : wi xs i = true ↔ ∃ k, k < xs.length ∧ Has1 (nth xs k) i :=
  ⟨fun h => wi_get h, fun ⟨_, hk, h⟩ => wi_true hk h⟩
def EndLe (xs : List (Int × Int)) (E : Int) : Prop := ∀ k, k < xs.length → (nth xs k).1 + (nth xs k).2 ≤ E
theorem EndLe.mono {xs : List (Int × Int)} {E F : Int} (h : EndLe xs E) (hEF : E ≤ F) : EndLe xs F := fun k hk => by have := h k hk; omega
theorem EndLe.nil (E : Int) : EndLe [] E := fun k hk => by simp at hk
theorem nth_left {xs ys : List (Int × Int)} {k : Nat} (h : k < xs.length) : nth (xs ++ ys) k = nth xs k := by simp [nth, List.getElem?_append, h]
theorem nth_right {xs ys : List (Int × Int)} {k : Nat} (h : xs.length ≤ k) : nth (xs ++ ys) k = nth ys (k - xs.length) := by simp [nth, List.getElem?_append]; rw [if_neg (by omega)]
theorem nth_last {xs : List (Int × Int)} {x : Int × Int} : nth (xs ++ [x]) xs.length = x := by simp [nth]
theorem okAt_left {xs ys : List (Int × Int)} {k : Nat} (h : k < xs.length) : okAt (xs ++ ys) k = okAt xs k := by
  unfold okAt
  rw [nth_left h, nth_left (k := k - 1) (by omega)]
theorem setB_nil : setB [] = true := rfl
theorem setB_one {x : Int × Int} (h : mayB x = true) : setB [x] = true := setB_true fun k hk => by
  have : k = 0 := by simpa using hk
  subst this
  exact okAt_zero h
theorem setB_snoc {xs : List (Int × Int)} {x : Int × Int} {E : Int} (h : setB xs = true) (hx : mayB x = true) (hE : EndLe xs E) (hlt : E < x.1) : setB (xs ++ [x]) = true := by
  refine setB_true fun k hk => ?_
  simp only [List.length_append, List.length_cons, List.length_nil] at hk
  rcases Nat.lt_or_ge k xs.length with h1 | h1
  · rw [okAt_left h1]; exact setB_at h k h1
  · obtain rfl : k = xs.length := by omega
    rcases Nat.eq_zero_or_pos xs.length with h0 | h0
    · exact okAt_first h0 (by rw [nth_last]; exact hx)
    · obtain ⟨m, hm⟩ : ∃ m, xs.length = m + 1 := ⟨xs.length - 1, by omega⟩
      have hl : nth (xs ++ [x]) (m + 1) = x := by rw [← hm]; exact nth_last
      rw [hm]
      refine okAt_succ (by rw [hl]; exact hx) ?_
      rw [hl, nth_left (by omega)]
      have := hE m (by omega)
      omega
theorem wi_snoc {xs : List (Int × Int)} {x : Int × Int} {i : Int} : wi (xs ++ [x]) i = true ↔ wi xs i = true ∨ Has1 x i := by
  unfold wi Has1
  simp
theorem EndLe.snoc {xs : List (Int × Int)} {x : Int × Int} {E : Int} (hE : EndLe xs E) (h : x.1 + x.2 ≤ E) : EndLe (xs ++ [x]) E := fun k hk => by
  simp only [List.length_append, List.length_cons, List.length_nil] at hk
  rcases Nat.lt_or_ge k xs.length with h1 | h1
  · rw [nth_left h1]; exact hE k h1
  · obtain rfl : k = xs.length := by omega
    rw [nth_last]; exact h
theorem set_bounds {xs : List (Int × Int)} (h : setB xs = true) {i : Int} (hi : wi xs i = true) : 0 ≤ i ∧ i < 65536 := by
  obtain ⟨k, hk, h1, h2⟩ := wi_iff.1 hi
  have := mayB_iff.1 (okAt_may (setB_at h k hk))
  omega

/-- With what lies from a on, ahead of e, behind it, if there is any. -/
def addF (xs : List (Int × Int)) (at' en : Int) : List (Int × Int) := if en ≤ at' then xs else xs ++ [(at', en - at')]
theorem addF_no {xs : List (Int × Int)} {a e : Int} (h : e ≤ a) : addF xs a e = xs := by simp [addF, h]
theorem addF_yes {xs : List (Int × Int)} {a e : Int} (h : ¬ e ≤ a) : addF xs a e = xs ++ [(a, e - a)] := by simp [addF, h]
theorem addF_length (xs : List (Int × Int)) (a e : Int) : (addF xs a e).length ≤ xs.length + 1 := by unfold addF; split <;> simp
theorem addF_set {xs : List (Int × Int)} {a e E : Int} (h : setB xs = true) (hE : EndLe xs E) (hlt : E < a) (h0 : 0 ≤ a) (h1 : e ≤ 65536) : setB (addF xs a e) = true := by
  by_cases hc : e ≤ a
  · rw [addF_no hc]; exact h
  · rw [addF_yes hc]; exact setB_snoc h (mayB_iff.2 ⟨h0, by simp; omega, by simp; omega⟩) hE hlt
theorem addF_wi {xs : List (Int × Int)} {a e i : Int} : wi (addF xs a e) i = true ↔ wi xs i = true ∨ (a ≤ i ∧ i < e) := by
  by_cases hc : e ≤ a
  · rw [addF_no hc]
    constructor
    · exact Or.inl
    · rintro (h | h)
      · exact h
      · omega
  · rw [addF_yes hc, wi_snoc]
    unfold Has1
    constructor
    · rintro (h | h)
      · exact .inl h
      · exact .inr (by simp at h; omega)
    · rintro (h | h)
      · exact .inl h
      · exact .inr (by simp; omega)
theorem addF_end {xs : List (Int × Int)} {a e E F : Int} (hE : EndLe xs E) (h1 : E ≤ F) (h2 : e ≤ F) : EndLe (addF xs a e) F := by
  by_cases hc : e ≤ a
  · rw [addF_no hc]; exact hE.mono h1
  · rw [addF_yes hc]; exact (hE.mono h1).snoc (by simp; omega)

/-- The sectors of the first k spans. -/
def Upto (xs : List (Int × Int)) (k : Nat) (i : Int) : Prop := ∃ j, j < k ∧ Has1 (nth xs j) i
theorem upto_zero {xs : List (Int × Int)} {i : Int} : ¬ Upto xs 0 i := fun ⟨j, hj, _⟩ => by omega
theorem upto_succ {xs : List (Int × Int)} {k : Nat} {i : Int} : Upto xs (k + 1) i ↔ Upto xs k i ∨ Has1 (nth xs k) i := by
  constructor
  · rintro ⟨j, hj, h⟩
    by_cases e : j = k
    · exact .inr (e ▸ h)
    · exact .inl ⟨j, by omega, h⟩
  · rintro (⟨j, hj, h⟩ | h)
    · exact ⟨j, by omega, h⟩
    · exact ⟨k, by omega, h⟩
theorem upto_all {xs : List (Int × Int)} {i : Int} : Upto xs xs.length i ↔ wi xs i = true := wi_iff.symm

/-- Two sets of the same sectors are one list. -/
theorem set_ext_aux : ∀ (n : Nat) {xs ys : List (Int × Int)}, setB xs = true → setB ys = true → (∀ i, wi xs i = true ↔ wi ys i = true) →
    ∀ k, k < n → (k < xs.length ↔ k < ys.length) ∧ (k < xs.length → nth xs k = nth ys k) := by
  intro n
  induction n with
  | zero => intro xs ys _ _ _ k hk; omega
  | succ n ih =>
    intro xs ys hx hy h k hk
    rcases Nat.lt_or_ge k n with hkn | hkn
    · exact ih hx hy h k hkn
    · obtain rfl : k = n := by omega
      have IH := ih hx hy h
      -- half: whatever the one has at k the other has
      have half : ∀ {us vs : List (Int × Int)}, setB us = true → setB vs = true → (∀ i, wi us i = true ↔ wi vs i = true) → (∀ j, j < k → (j < us.length ↔ j < vs.length) ∧ (j < us.length → nth us j = nth vs j)) → k < us.length → k < vs.length ∧ (nth vs k).1 ≤ (nth us k).1 := by
        intro us vs hu hv huv hI hku
        have mk := mayB_iff.1 (okAt_may (setB_at hu k hku))
        obtain ⟨j, hj, hh⟩ := wi_iff.1 ((huv (nth us k).1).1 (wi_iff.2 ⟨k, hku, by unfold Has1; omega⟩))
        rcases Nat.lt_or_ge j k with hjk | hjk
        · have := (hI j hjk)
          have e := this.2 (this.1.2 hj)
          have := set_lt' hu hjk hku
          rw [← e] at hh
          unfold Has1 at hh; omega
        · refine ⟨by omega, ?_⟩
          rcases Nat.lt_or_ge k j with h2 | h2
          · have := set_lt' hv h2 hj; have := mayB_iff.1 (okAt_may (setB_at hv k (by omega))); unfold Has1 at hh; omega
          · obtain rfl : j = k := by omega
            exact hh.1
      have IH' : ∀ j, j < k → (j < ys.length ↔ j < xs.length) ∧ (j < ys.length → nth ys j = nth xs j) := fun j hj => ⟨(IH j hj).1.symm, fun h2 => ((IH j hj).2 ((IH j hj).1.2 h2)).symm⟩
      have h' : ∀ i, wi ys i = true ↔ wi xs i = true := fun i => (h i).symm
      refine ⟨⟨fun hk => (half hx hy h IH hk).1, fun hk => (half hy hx h' IH' hk).1⟩, fun hkx => ?_⟩
      have a1 := half hx hy h IH hkx
      have a2 := half hy hx h' IH' a1.1
      have e1 : (nth xs k).1 = (nth ys k).1 := by omega
      -- the ends
      have ends : ∀ {us vs : List (Int × Int)}, setB us = true → setB vs = true → (∀ i, wi us i = true ↔ wi vs i = true) → (∀ j, j < k → (j < us.length ↔ j < vs.length) ∧ (j < us.length → nth us j = nth vs j)) → k < us.length → k < vs.length → (nth us k).1 = (nth vs k).1 → (nth us k).2 ≤ (nth vs k).2 := by
        intro us vs hu hv huv hI hku hkv he
        rcases Int.lt_or_le (nth vs k).2 (nth us k).2 with hlt | hle
        · exfalso
          have mk := mayB_iff.1 (okAt_may (setB_at hv k hkv))
          obtain ⟨j, hj, hh⟩ := wi_iff.1 ((huv ((nth vs k).1 + (nth vs k).2)).1 (wi_iff.2 ⟨k, hku, by unfold Has1; omega⟩))
          rcases Nat.lt_or_ge j k with hjk | hjk
          · have := set_lt' hv hjk hkv; unfold Has1 at hh; omega
          · rcases Nat.lt_or_ge k j with h2 | h2
            · have := set_lt' hv h2 hj; unfold Has1 at hh; omega
            · obtain rfl : j = k := by omega
              unfold Has1 at hh; omega
        · exact hle
      have b1 := ends hx hy h IH hkx a1.1 e1
      have b2 := ends hy hx h' IH' a1.1 hkx e1.symm
      exact Prod.ext e1 (by omega)
theorem set_ext {xs ys : List (Int × Int)} (hx : setB xs = true) (hy : setB ys = true) (h : ∀ i, wi xs i = true ↔ wi ys i = true) : xs = ys := by
  have H := set_ext_aux (xs.length + ys.length + 1) hx hy h
  have hl : xs.length = ys.length := by
    rcases Nat.lt_trichotomy xs.length ys.length with h1 | h1 | h1
    · have := (H xs.length (by omega)).1; omega
    · exact h1
    · have := (H ys.length (by omega)).1; omega
  refine List.ext_getElem hl fun k h1 h2 => ?_
  have := (H k (by omega)).2 h1
  rwa [nth_eq h1, nth_eq h2] at this
end Sp
end Go.Proofs.Ythbgniclplfpgaa
