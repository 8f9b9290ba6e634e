/- The parts as floats: which word a quotient of two small numbers is. -/
import Derived.Laws.FloatArith
namespace Go.Proofs.Ytgdfmoehbgmfkaa
open Go.RowKit
namespace Li
theorem log2_lo {x : Nat} (h : x ≠ 0) : 2 ^ x.log2 ≤ x := Nat.log2_self_le h
theorem log2_hi (x : Nat) : x < 2 ^ (x.log2 + 1) := Nat.lt_log2_self
theorem log2_is {x k : Nat} (h1 : 2 ^ k ≤ x) (h2 : x < 2 ^ (k + 1)) : x.log2 = k := by
  have hx : x ≠ 0 := by have := Nat.two_pow_pos k; omega
  have a := log2_lo hx
  have b := log2_hi x
  have c1 : k < x.log2 + 1 := (Nat.pow_lt_pow_iff_right (by omega)).1 (Nat.lt_of_le_of_lt h1 b)
  have c2 : x.log2 < k + 1 := (Nat.pow_lt_pow_iff_right (by omega)).1 (Nat.lt_of_le_of_lt a h2)
  omega
theorem least : Ieee.double.leastPlace = -1074 := by decide
theorem binade : Ieee.double.binade = 4503599627370496 := by decide
theorem infR : Ieee.double.infRung = 9218868437227405312 := by decide
theorem signW : Ieee.double.signWeight = 9223372036854775808 := by decide
theorem word_f (r : Nat) : Ieee.double.word false r = r := rfl
theorem cut0 (n : Nat) : Ieee.Toward.even.cut false n 0 = n := by
  simp [Ieee.Toward.cut, Nat.mod_one]
theorem pow53 : (2 : Nat) ^ 53 = 9007199254740992 := by decide
theorem pow52 : (2 : Nat) ^ 52 = 4503599627370496 := by decide
theorem shifted (x : Nat) (hx : x ≠ 0) (h : x.log2 ≤ 52) : 4503599627370496 ≤ x * 2 ^ (52 - x.log2) ∧ x * 2 ^ (52 - x.log2) < 9007199254740992 := by
  have hhi := log2_hi x
  have hlo := log2_lo hx
  have h1 : x * 2 ^ (52 - x.log2) < 2 ^ (x.log2 + 1) * 2 ^ (52 - x.log2) := Nat.mul_lt_mul_of_pos_right hhi (Nat.two_pow_pos _)
  have h2 : 2 ^ x.log2 * 2 ^ (52 - x.log2) ≤ x * 2 ^ (52 - x.log2) := Nat.mul_le_mul_right _ hlo
  rw [← Nat.pow_add, show x.log2 + 1 + (52 - x.log2) = 53 by omega, pow53] at h1
  rw [← Nat.pow_add, show x.log2 + (52 - x.log2) = 52 by omega, pow52] at h2
  exact ⟨h2, h1⟩
theorem fracB : Ieee.double.fractionBits = 52 := rfl
theorem last_few (L : Nat) (h : L ≤ 52) : max ((0 : Int) + (L : Int) - ((Ieee.double.fractionBits : Nat) : Int)) Ieee.double.leastPlace = (L : Int) - 52 := by
  rw [least, fracB]
  omega
theorem nearest_gen (f : Ieee.Format) (x : Nat) (p : Int) (hx : x ≠ 0) :
    f.nearest false x p = min (((max (p + (x.log2 : Int) - ((f.fractionBits : Nat) : Int)) f.leastPlace) - f.leastPlace).toNat * f.binade + Ieee.Toward.even.cut false (x <<< (p - (max (p + (x.log2 : Int) - ((f.fractionBits : Nat) : Int)) f.leastPlace)).toNat) ((max (p + (x.log2 : Int) - ((f.fractionBits : Nat) : Int)) f.leastPlace) - p).toNat) f.infRung := by
  unfold Ieee.Format.nearest
  rw [if_neg hx]
  rfl
theorem nearest_eq (x : Nat) (p last : Int) (hx : x ≠ 0) (hl : max (p + (x.log2 : Int) - ((Ieee.double.fractionBits : Nat) : Int)) Ieee.double.leastPlace = last) :
    Ieee.double.nearest false x p = min ((last - Ieee.double.leastPlace).toNat * Ieee.double.binade + Ieee.Toward.even.cut false (x <<< (p - last).toNat) (last - p).toNat) Ieee.double.infRung := by
  have h := nearest_gen Ieee.double x p hx
  rw [hl] at h
  exact h
/-- A number of few digits: its word. -/
theorem nearest_few (x : Nat) (hx : x ≠ 0) (h : x.log2 ≤ 52) : Ieee.double.nearest false x 0 = (x.log2 + 1022) * 4503599627370496 + x * 2 ^ (52 - x.log2) := by
  have hK := (shifted x hx h).2
  rw [nearest_eq x 0 _ hx (last_few _ h)]
  have e2 : ((0 : Int) - ((x.log2 : Int) - 52)).toNat = 52 - x.log2 := by omega
  have e3 : ((x.log2 : Int) - 52 - 0).toNat = 0 := by omega
  have e4 : ((x.log2 : Int) - 52 - Ieee.double.leastPlace).toNat = x.log2 + 1022 := by rw [least]; omega
  rw [e2, e3, e4, cut0, infR, binade, Nat.shiftLeft_eq]
  generalize x * 2 ^ (52 - x.log2) = K at *
  generalize x.log2 = L at *
  exact Nat.min_eq_left (by omega)
/-- What a word of the common kind stands for. -/
theorem read_word (a K : Nat) (h1 : 4503599627370496 ≤ K) (h2 : K < 9007199254740992) (ha : a ≤ 2044) : Ieee.double.read (a * 4503599627370496 + K) = .number false K ((a : Int) - 1074) := by
  unfold Ieee.Format.read
  rw [signW, binade, infR, least]
  have e0 : (a * 4503599627370496 + K) % 9223372036854775808 = a * 4503599627370496 + K := Nat.mod_eq_of_lt (by omega)
  have e1 : (a * 4503599627370496 + K) / 9223372036854775808 = 0 := Nat.div_eq_of_lt (by omega)
  have e2 : (a * 4503599627370496 + K) % 4503599627370496 = K - 4503599627370496 := by omega
  have e3 : (a * 4503599627370496 + K) / 4503599627370496 = a + 1 := by omega
  simp only [e0, e1, e2, e3]
  rw [if_neg (by omega), if_pos (by omega)]
  rw [show 4503599627370496 + (K - 4503599627370496) = K by omega, show (-1074 : Int) + ((a + 1 - 1 : Nat) : Int) = (a : Int) - 1074 by omega]
  rfl
theorem read_zero : Ieee.double.read 0 = .number false 0 (-1074) := by decide
theorem fl_read (x : Nat) (hx : x ≠ 0) (h : x.log2 ≤ 52) : Ieee.double.read (Ieee.double.nearest false x 0) = .number false (x * 2 ^ (52 - x.log2)) ((x.log2 : Int) - 52) := by
  obtain ⟨hK2, hK⟩ := shifted x hx h
  rw [nearest_few x hx h, read_word _ _ hK2 hK (by omega), show ((x.log2 + 1022 : Nat) : Int) - 1074 = (x.log2 : Int) - 52 by omega]
/-- k is N / D, rounded to the nearest whole number, between two to the even one. -/
structure Rne (N D k : Nat) : Prop where
  lo : 2 * (k * D) ≤ 2 * N + D
  hi : 2 * N ≤ 2 * (k * D) + D
  tieL : 2 * (k * D) = 2 * N + D → k % 2 = 0
  tieH : 2 * N = 2 * (k * D) + D → k % 2 = 0
theorem Rne.mul {N D k : Nat} (h : Rne N D k) (a : Nat) (ha : 0 < a) : Rne (a * N) (a * D) k := by
  have e : k * (a * D) = a * (k * D) := by rw [Nat.mul_left_comm]
  refine ⟨?_, ?_, fun x => h.tieL ?_, fun x => h.tieH ?_⟩
  · rw [e]; have := Nat.mul_le_mul_left a h.lo; rw [Nat.mul_add] at this; rw [Nat.mul_left_comm 2 a, Nat.mul_left_comm 2 a]; exact this
  · rw [e]; have := Nat.mul_le_mul_left a h.hi; rw [Nat.mul_add] at this; rw [Nat.mul_left_comm 2 a, Nat.mul_left_comm 2 a]; exact this
  · rw [e, Nat.mul_left_comm 2 a, Nat.mul_left_comm 2 a, ← Nat.mul_add] at x; exact Nat.eq_of_mul_eq_mul_left ha x
  · rw [e, Nat.mul_left_comm 2 a, Nat.mul_left_comm 2 a, ← Nat.mul_add] at x; exact Nat.eq_of_mul_eq_mul_left ha x
theorem Rne.unmul {N D k : Nat} (a : Nat) (ha : 0 < a) (h : Rne (a * N) (a * D) k) : Rne N D k := by
  have e : k * (a * D) = a * (k * D) := by rw [Nat.mul_left_comm]
  refine ⟨?_, ?_, fun x => h.tieL ?_, fun x => h.tieH ?_⟩
  · have := h.lo; rw [e, Nat.mul_left_comm 2 a, Nat.mul_left_comm 2 a, ← Nat.mul_add] at this; exact Nat.le_of_mul_le_mul_left this ha
  · have := h.hi; rw [e, Nat.mul_left_comm 2 a, Nat.mul_left_comm 2 a, ← Nat.mul_add] at this; exact Nat.le_of_mul_le_mul_left this ha
  · rw [e, Nat.mul_left_comm 2 a, x, Nat.mul_add, Nat.mul_left_comm a 2]
  · rw [e, Nat.mul_left_comm 2 a, x, Nat.mul_add, Nat.mul_left_comm a 2]
theorem Rne.uniq {N D k j : Nat} (hD : 0 < D) (h : Rne N D k) (g : Rne N D j) : k = j := by
  rcases Nat.lt_trichotomy k j with hl | he | hl
  · exfalso
    have e : j * D = k * D + (j - k) * D := by rw [← Nat.add_mul]; congr 1; omega
    have h1 := h.hi; have h2 := g.lo
    by_cases h3 : j - k = 1
    · rw [h3, Nat.one_mul] at e
      have a1 := h.tieH (by omega)
      have a2 := g.tieL (by omega)
      omega
    · have : 2 * D ≤ (j - k) * D := Nat.mul_le_mul_right D (by omega)
      omega
  · exact he
  · exfalso
    have e : k * D = j * D + (k - j) * D := by rw [← Nat.add_mul]; congr 1; omega
    have h1 := g.hi; have h2 := h.lo
    by_cases h3 : k - j = 1
    · rw [h3, Nat.one_mul] at e
      have a1 := g.tieH (by omega)
      have a2 := h.tieL (by omega)
      omega
    · have : 2 * D ≤ (k - j) * D := Nat.mul_le_mul_right D (by omega)
      omega
theorem cut_eq (Q d : Nat) : Ieee.Toward.even.cut false Q d = Q / (1 <<< min d (Q.log2 + 2)) + (decide ((1 <<< min d (Q.log2 + 2)) < 2 * (Q % (1 <<< min d (Q.log2 + 2)))) || ((1 <<< min d (Q.log2 + 2)) == 2 * (Q % (1 <<< min d (Q.log2 + 2))) && Q / (1 <<< min d (Q.log2 + 2)) % 2 == 1)).toNat := rfl
/-- The rounding of a quotient that bears one digit more where anything is left over. -/
theorem cut_rne (D n c : Nat) (hn : 0 < n) (hc : 1 ≤ c) (hl : c + 1 ≤ (2 * (D / n) + (D % n != 0).toNat).log2 + 2) :
    Rne D (n * 2 ^ c) (Ieee.Toward.even.cut false (2 * (D / n) + (D % n != 0).toNat) (c + 1)) := by
  have hD : n * (D / n) + D % n = D := Nat.div_add_mod D n
  have hr : D % n < n := Nat.mod_lt _ hn
  rw [cut_eq, Nat.min_eq_left hl]
  generalize D / n = q at *
  generalize D % n = r at *
  obtain ⟨s, hs⟩ : ∃ s, s = (r != 0).toNat := ⟨_, rfl⟩
  rw [← hs]
  have hs' : (r = 0 ∧ s = 0) ∨ (0 < r ∧ s = 1) := by
    by_cases h0 : r = 0
    · left; exact ⟨h0, by rw [hs, h0]; rfl⟩
    · right; exact ⟨by omega, by rw [hs]; simp [h0]⟩
  clear hs hl
  obtain ⟨h, hh⟩ : ∃ h, h = 2 ^ c := ⟨_, rfl⟩
  have hg : (1 <<< (c + 1) : Nat) = 2 * h := by rw [Nat.one_shiftLeft, Nat.pow_succ, hh, Nat.mul_comm]
  have heven : h % 2 = 0 := by
    obtain ⟨j, rfl⟩ : ∃ j, c = j + 1 := ⟨c - 1, by omega⟩
    rw [hh, Nat.pow_succ]; omega
  have hpos : 0 < h := by rw [hh]; exact Nat.two_pow_pos _
  rw [← hh, hg]
  clear hh hg hc
  have hk := Nat.div_add_mod (2 * q + s) (2 * h)
  have hrho := Nat.mod_lt (2 * q + s) (show 0 < 2 * h by omega)
  generalize (2 * q + s) / (2 * h) = k at *
  generalize (2 * q + s) % (2 * h) = p at *
  have hX : n * (2 * h * k) = 2 * (k * (n * h)) := by
    rw [Nat.mul_assoc, Nat.mul_left_comm n 2, Nat.mul_left_comm k n h, Nat.mul_comm k h]
  have hE : n * (2 * h * k + p) = n * (2 * q + s) := by rw [hk]
  rw [Nat.mul_add, Nat.mul_add, hX, Nat.mul_left_comm n 2 q] at hE
  have hpar : 2 * h * k = 2 * (h * k) := Nat.mul_assoc _ _ _
  rw [hpar] at hk
  have hX1 : (k + 1) * (n * h) = k * (n * h) + n * h := by rw [Nat.add_mul, Nat.one_mul]
  generalize h * k = hk' at *
  have hns : n * s = if s = 0 then 0 else n := by rcases hs' with ⟨_, e⟩ | ⟨_, e⟩ <;> rw [e] <;> simp
  have hodd : k % 2 = 0 ∨ k % 2 = 1 := by omega
  rcases Nat.lt_trichotomy p h with hp | hp | hp
  · have h1 : n * (p + 1) ≤ n * h := Nat.mul_le_mul_left n hp
    rw [Nat.mul_add, Nat.mul_one] at h1
    have c1 : decide (2 * h < 2 * p) = false := decide_eq_false (by omega)
    have c2 : (2 * h == 2 * p) = false := by rw [beq_eq_false_iff_ne]; omega
    simp only [c1, c2, Bool.false_and, Bool.or_false, Bool.toNat_false, Nat.add_zero]
    rcases hs' with ⟨e1, e2⟩ | ⟨e1, e2⟩ <;> subst e2 <;> simp only [Nat.mul_zero, Nat.mul_one] at hE <;> constructor <;> omega
  · subst hp
    have e2 : s = 0 := by omega
    have e1 : r = 0 := by omega
    subst e1 e2
    have c1 : decide (2 * p < 2 * p) = false := decide_eq_false (by omega)
    simp only [c1, beq_self_eq_true, Bool.true_and, Bool.false_or]
    simp only [Nat.mul_zero, Nat.add_zero] at hE
    rcases hodd with ho | ho
    · simp only [ho, Nat.reduceBEq, Bool.toNat_false, Nat.add_zero]
      constructor <;> omega
    · simp only [ho, beq_self_eq_true, Bool.toNat_true]
      constructor <;> (try rw [hX1]) <;> omega
  · have h1 : n * (h + 1) ≤ n * p := Nat.mul_le_mul_left n hp
    rw [Nat.mul_add, Nat.mul_one] at h1
    have h2 : n * p < n * (2 * h) := Nat.mul_lt_mul_of_pos_left hrho hn
    have h3 : n * (p + 1) ≤ n * (2 * h) := Nat.mul_le_mul_left n hrho
    rw [Nat.mul_left_comm n 2 h] at h2 h3
    rw [Nat.mul_add, Nat.mul_one] at h3
    have c1 : decide (2 * h < 2 * p) = true := decide_eq_true (by omega)
    simp only [c1, Bool.true_or, Bool.toNat_true]
    rcases hs' with ⟨e1, e2⟩ | ⟨e1, e2⟩ <;> subst e2 <;> simp only [Nat.mul_zero, Nat.mul_one] at hE <;> constructor <;> (try rw [hX1]) <;> omega

/-- What the quotient of two small numbers is as a float: its binade, and the digits. -/
structure Fq (l t F k : Nat) : Prop where
  lo : t ≤ l * 2 ^ F
  hi : l * 2 ^ F < 2 * t
  rne : Rne (l * 2 ^ (52 + F)) t k
  small : F ≤ 17
theorem log2_le (x n : Nat) (h : x < 2 ^ (n + 1)) : x.log2 ≤ n := by
  by_cases hx : x = 0
  · subst hx; simp
  · have := (Nat.pow_lt_pow_iff_right (a := 2) (by omega)).1 (Nat.lt_of_le_of_lt (log2_lo hx) h)
    omega
theorem log2_mono {x y : Nat} (hx : x ≠ 0) (h : x ≤ y) : x.log2 ≤ y.log2 := by
  have := (Nat.pow_lt_pow_iff_right (a := 2) (by omega)).1 (Nat.lt_of_le_of_lt (Nat.le_trans (log2_lo hx) h) (log2_hi y))
  omega
theorem pow55 : (2 : Nat) ^ 54 = 18014398509481984 := by decide
theorem div_eq (x y : Nat) (A B : Nat) (i j : Int) (hx : Ieee.double.read x = .number false A i) (hy : Ieee.double.read y = .number false B j) (hB : B ≠ 0) (hA2 : A.log2 = 52) (hB2 : B.log2 = 52) :
    Ieee.double.div x y = some (Ieee.double.nearest false (2 * (A * 18014398509481984 / B) + (A * 18014398509481984 % B != 0).toNat) (i - j - 54 - 1)) := by
  unfold Ieee.Format.div
  rw [hx, hy]
  unfold Ieee.Datum.quotient
  simp only [hB, if_false, hA2, hB2, fracB]
  rw [show 52 + 2 + 52 - 52 = 54 from rfl, Nat.shiftLeft_eq, pow55]
  rfl

theorem half_lo {D Y k : Nat} (hY : 0 < Y) (h : Rne D Y k) {m : Nat} (hm : m * Y ≤ D) : m ≤ k := by
  rcases Nat.lt_or_ge k m with hk | hk
  · exfalso
    have h1 : (k + 1) * Y ≤ m * Y := Nat.mul_le_mul_right Y hk
    rw [Nat.add_mul, Nat.one_mul] at h1
    have := h.hi
    omega
  · exact hk
theorem half_hi {D Y k : Nat} (hY : 0 < Y) (h : Rne D Y k) {m : Nat} (hm : D ≤ m * Y) : k ≤ m := by
  rcases Nat.lt_or_ge m k with hk | hk
  · exfalso
    have h1 : (m + 1) * Y ≤ k * Y := Nat.mul_le_mul_right Y hk
    rw [Nat.add_mul, Nat.one_mul] at h1
    have := h.lo
    omega
  · exact hk
/-- **The quotient of two numbers, the first one no greater, both up to 65536, as a float.** -/
theorem quo_few (l t : Nat) (h1 : 1 ≤ l) (h2 : l ≤ t) (h3 : t ≤ 65536) : ∃ F k, Fq l t F k ∧ 4503599627370496 ≤ k ∧ k ≤ 9007199254740992 ∧
    Ieee.double.div (Ieee.double.nearest false l 0) (Ieee.double.nearest false t 0) = some ((1022 - F) * 4503599627370496 + k) := by
  have hl0 : l ≠ 0 := by omega
  have ht0 : t ≠ 0 := by omega
  have hlt : t.log2 ≤ 16 := log2_le t 16 (by omega)
  have hll : l.log2 ≤ t.log2 := log2_mono hl0 h2
  obtain ⟨a1, a2⟩ := shifted l hl0 (by omega)
  obtain ⟨b1, b2⟩ := shifted t ht0 (by omega)
  have hA2 : (l * 2 ^ (52 - l.log2)).log2 = 52 := log2_is (by rw [pow52]; exact a1) (by rw [pow53]; exact a2)
  have hB2 : (t * 2 ^ (52 - t.log2)).log2 = 52 := log2_is (by rw [pow52]; exact b1) (by rw [pow53]; exact b2)
  rw [div_eq _ _ _ _ _ _ (fl_read l hl0 (by omega)) (fl_read t ht0 (by omega)) (by omega) hA2 hB2]
  have hlo1 := log2_lo hl0
  have hhi1 := log2_hi l
  have hlo2 := log2_lo ht0
  have hhi2 := log2_hi t
  obtain ⟨L, hL⟩ : ∃ L, L = l.log2 := ⟨_, rfl⟩
  obtain ⟨T, hT⟩ : ∃ T, T = t.log2 := ⟨_, rfl⟩
  obtain ⟨A, hA⟩ : ∃ A, A = l * 2 ^ (52 - l.log2) := ⟨_, rfl⟩
  obtain ⟨B, hB⟩ : ∃ B, B = t * 2 ^ (52 - t.log2) := ⟨_, rfl⟩
  rw [← hA] at a1 a2 hA2
  rw [← hB] at b1 b2 hB2
  rw [← hA, ← hB]
  have hLT : L ≤ T ∧ T ≤ 16 := by rw [hL, hT]; exact ⟨hll, hlt⟩
  have hApos : 0 < A := by omega
  have hBpos : 0 < B := by omega
  have hAB : A = l * 2 ^ (T - L) * 2 ^ (52 - T) := by
    rw [hA, Nat.mul_assoc, ← Nat.pow_add, ← hL]
    congr 2; omega
  -- which binade
  obtain ⟨c, hc⟩ : ∃ c, c = if B ≤ A then 2 else 1 := ⟨_, rfl⟩
  have hdm := Nat.div_add_mod (A * 18014398509481984) B
  have hmod := Nat.mod_lt (A * 18014398509481984) hBpos
  have hsb : (A * 18014398509481984 % B != 0).toNat ≤ 1 := Bool.toNat_le _
  obtain ⟨q, hq⟩ : ∃ q, q = A * 18014398509481984 / B := ⟨_, rfl⟩
  have hqb : 2 ^ (51 + c + 1) ≤ q ∧ q < 2 ^ (51 + c + 2) := by
    by_cases hba : B ≤ A
    · rw [hc, if_pos hba]
      constructor
      · rw [hq]; refine (Nat.le_div_iff_mul_le hBpos).2 ?_
        rw [show 2 ^ (51 + 2 + 1) = 18014398509481984 by decide, Nat.mul_comm]
        exact Nat.mul_le_mul_right _ hba
      · rw [hq]; refine (Nat.div_lt_iff_lt_mul hBpos).2 ?_
        rw [show 2 ^ (51 + 2 + 2) = 36028797018963968 by decide]
        omega
    · rw [hc, if_neg hba]
      constructor
      · rw [hq]; refine (Nat.le_div_iff_mul_le hBpos).2 ?_
        rw [show 2 ^ (51 + 1 + 1) = 9007199254740992 by decide]
        omega
      · rw [hq]; refine (Nat.div_lt_iff_lt_mul hBpos).2 ?_
        rw [show 2 ^ (51 + 1 + 2) = 18014398509481984 by decide]
        omega
  have hc12 : c = 1 ∨ c = 2 := by rw [hc]; split <;> simp
  obtain ⟨s, hs⟩ : ∃ s, s = (A * 18014398509481984 % B != 0).toNat := ⟨_, rfl⟩
  have hQ2 : (2 * q + s).log2 = 53 + c := by
    rw [← hs] at hsb
    refine log2_is ?_ ?_
    · rw [show 53 + c = (51 + c + 1) + 1 by omega, Nat.pow_succ]; omega
    · rw [show 53 + c + 1 = (51 + c + 2) + 1 by omega, Nat.pow_succ]; omega
  have hrne := cut_rne (A * 18014398509481984) B c hBpos (by omega) (by rw [← hq, ← hs, hQ2]; omega)
  rw [← hq, ← hs] at hrne ⊢
  have hF : T - L + 2 - c ≤ 17 := by omega
  have hpw : 2 ^ (T - L) * 2 ^ (52 - T) * 18014398509481984 = 2 ^ (52 + (T - L + 2 - c)) * 2 ^ (52 - T + c) := by
    rw [← pow55, ← Nat.pow_add, ← Nat.pow_add, ← Nat.pow_add]
    congr 1; omega
  have hBe : B * 2 ^ c = 2 ^ (52 - T + c) * t := by
    rw [hB, ← hT, Nat.pow_add]; ac_rfl
  have hAe : A * 18014398509481984 = 2 ^ (52 - T + c) * (l * 2 ^ (52 + (T - L + 2 - c))) := by
    have : A * 18014398509481984 = l * (2 ^ (T - L) * 2 ^ (52 - T) * 18014398509481984) := by rw [hAB]; ac_rfl
    rw [this, hpw]; ac_rfl
  have hYpos : 0 < B * 2 ^ c := Nat.mul_pos hBpos (Nat.two_pow_pos _)
  obtain ⟨k, hk⟩ : ∃ k, k = Ieee.Toward.even.cut false (2 * q + s) (c + 1) := ⟨_, rfl⟩
  rw [← hk] at hrne
  have hk1 : 4503599627370496 ≤ k := by
    refine half_lo hYpos hrne ?_
    by_cases hba : B ≤ A
    · rw [hc, if_pos hba]; omega
    · rw [hc, if_neg hba]; omega
  have hk2 : k ≤ 9007199254740992 := by
    refine half_hi hYpos hrne ?_
    by_cases hba : B ≤ A
    · rw [hc, if_pos hba]; omega
    · rw [hc, if_neg hba]; omega
  refine ⟨T - L + 2 - c, k, ⟨?_, ?_, ?_, hF⟩, hk1, hk2, ?_⟩
  · -- t ≤ l * 2 ^ F
    rcases hc12 with e | e
    · rw [show T - L + 2 - c = T - L + 1 by omega]
      have : 2 ^ L * 2 ^ (T - L + 1) = 2 ^ (T + 1) := by rw [← Nat.pow_add]; congr 1; omega
      have h4 : 2 ^ L * 2 ^ (T - L + 1) ≤ l * 2 ^ (T - L + 1) := Nat.mul_le_mul_right _ (by rw [hL]; exact hlo1)
      rw [← hT] at hhi2
      omega
    · have hba : B ≤ A := by
        by_cases h : B ≤ A
        · exact h
        · rw [hc, if_neg h] at e; omega
      rw [show T - L + 2 - c = T - L by omega]
      rw [hAB, hB, ← hT] at hba
      exact Nat.le_of_mul_le_mul_right hba (Nat.two_pow_pos _)
  · rcases hc12 with e | e
    · have hba : ¬ B ≤ A := by
        intro h
        rw [hc, if_pos h] at e; omega
      rw [show T - L + 2 - c = T - L + 1 by omega, Nat.pow_succ, ← Nat.mul_assoc]
      have : A < B := by omega
      rw [hAB, hB, ← hT] at this
      have := Nat.lt_of_mul_lt_mul_right this
      omega
    · rw [show T - L + 2 - c = T - L by omega]
      have : 2 ^ (L + 1) * 2 ^ (T - L) = 2 ^ T * 2 := by rw [← Nat.pow_add, ← Nat.pow_succ]; congr 1; omega
      have h4 : l * 2 ^ (T - L) < 2 ^ (L + 1) * 2 ^ (T - L) := Nat.mul_lt_mul_of_pos_right (by rw [hL]; exact hhi1) (Nat.two_pow_pos _)
      rw [← hT] at hlo2
      omega
  · rw [hAe, hBe] at hrne
    exact Rne.unmul _ (Nat.two_pow_pos _) hrne
  · congr 1
    have hp : ((L : Int) - 52 - ((T : Int) - 52) - 54 - 1) = (L : Int) - T - 55 := by omega
    rw [← hL, ← hT, hp]
    have hlast : max ((L : Int) - T - 55 + (((2 * q + s).log2 : Nat) : Int) - ((Ieee.double.fractionBits : Nat) : Int)) Ieee.double.leastPlace = (L : Int) - T - 54 + c := by
      rw [hQ2, least, fracB]; omega
    have hq0 : 0 < q := Nat.lt_of_lt_of_le (Nat.two_pow_pos _) hqb.1
    rw [nearest_eq _ _ _ (by omega) hlast]
    have e2 : ((L : Int) - T - 55 - ((L : Int) - T - 54 + c)).toNat = 0 := by omega
    have e3 : ((L : Int) - T - 54 + c - ((L : Int) - T - 55)).toNat = c + 1 := by omega
    have e4 : ((L : Int) - T - 54 + c - Ieee.double.leastPlace).toNat = 1022 - (T - L + 2 - c) := by rw [least]; omega
    rw [e2, e3, e4, Nat.shiftLeft_zero, ← hk, infR, binade]
    exact Nat.min_eq_left (by omega)
end Li
end Go.Proofs.Ytgdfmoehbgmfkaa
