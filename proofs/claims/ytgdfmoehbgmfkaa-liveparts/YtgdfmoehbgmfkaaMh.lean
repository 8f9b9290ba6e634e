/- The part of a row, times its sectors, is its live ones again: floats. -/
import Derived.Test.YtgdfmoehbgmfkaaMg
namespace Go.Proofs.Ytgdfmoehbgmfkaa
open Go.RowKit
namespace Li
/-- The word nearest to a number of many digits, and what it stands for. -/
structure Near (x : Nat) (d : Nat) (p : Int) (K : Nat) (i : Int) (e : Nat) : Prop where
  pl : i = p + d + e
  few : e ≤ 1
  lo : 4503599627370496 ≤ K
  hi : K < 9007199254740992
  near1 : 2 * (K * 2 ^ (d + e)) ≤ 2 * x + 2 ^ d
  near2 : 2 * x ≤ 2 * (K * 2 ^ (d + e)) + 2 ^ d
theorem cut_near (x d : Nat) (hd : 1 ≤ d) (hl : d ≤ x.log2 + 2) : Rne x (2 ^ d) (Ieee.Toward.even.cut false x d) := by
  rw [cut_eq, Nat.min_eq_left hl, Nat.one_shiftLeft]
  have hpos := Nat.two_pow_pos d
  have heven : 2 ^ d % 2 = 0 := by
    obtain ⟨j, rfl⟩ : ∃ j, d = j + 1 := ⟨d - 1, by omega⟩
    rw [Nat.pow_succ]; omega
  generalize 2 ^ d = g at *
  have hk := Nat.div_add_mod x g
  have hr := Nat.mod_lt x hpos
  generalize x / g = k at *
  generalize x % g = r at *
  have hX1 : (k + 1) * g = g * k + g := by rw [Nat.add_mul, Nat.one_mul, Nat.mul_comm]
  have hX0 : k * g = g * k := Nat.mul_comm _ _
  have hodd : k % 2 = 0 ∨ k % 2 = 1 := by omega
  rcases Nat.lt_trichotomy (2 * r) g with h | h | h
  · have c1 : decide (g < 2 * r) = false := decide_eq_false (by omega)
    have c2 : (g == 2 * r) = false := by rw [beq_eq_false_iff_ne]; omega
    simp only [c1, c2, Bool.false_and, Bool.or_false, Bool.toNat_false, Nat.add_zero]
    constructor <;> rw [hX0] <;> omega
  · have c1 : decide (g < 2 * r) = false := decide_eq_false (by omega)
    have c2 : (g == 2 * r) = true := by rw [beq_iff_eq]; omega
    simp only [c1, c2, Bool.true_and, Bool.false_or]
    rcases hodd with ho | ho
    · simp only [ho, Nat.reduceBEq, Bool.toNat_false, Nat.add_zero]
      constructor <;> (try rw [hX0]) <;> omega
    · simp only [ho, beq_self_eq_true, Bool.toNat_true]
      constructor <;> (try rw [hX1]) <;> omega
  · have c1 : decide (g < 2 * r) = true := decide_eq_true (by omega)
    simp only [c1, Bool.true_or, Bool.toNat_true]
    constructor <;> (try rw [hX1]) <;> omega
theorem nearest_many (x d : Nat) (p : Int) (hx : x.log2 = 52 + d) (hd : 1 ≤ d) (h0 : x ≠ 0) (hp1 : -1074 ≤ p + d) (hp2 : p + d ≤ 900) : ∃ K i e, Near x d p K i e ∧ Ieee.double.read (Ieee.double.nearest false x p) = .number false K i := by
  have hlo := log2_lo h0
  have hhi := log2_hi x
  rw [hx] at hlo hhi
  have hlast : max (p + ((x.log2 : Nat) : Int) - ((Ieee.double.fractionBits : Nat) : Int)) Ieee.double.leastPlace = p + d := by
    rw [hx, least, fracB]; omega
  rw [nearest_eq x p _ h0 hlast]
  have e2 : (p - (p + d)).toNat = 0 := by omega
  have e3 : (p + d - p).toNat = d := by omega
  rw [e2, e3, Nat.shiftLeft_zero, infR, binade, least]
  have hr := cut_near x d hd (by omega)
  obtain ⟨k, hk⟩ : ∃ k, k = Ieee.Toward.even.cut false x d := ⟨_, rfl⟩
  rw [← hk] at hr ⊢
  obtain ⟨a, ha⟩ : ∃ a : Nat, a = (p + d - -1074).toNat := ⟨_, rfl⟩
  rw [← ha]
  have hY : 0 < 2 ^ d := Nat.two_pow_pos _
  have e52 : 2 ^ (52 + d) = 4503599627370496 * 2 ^ d := by rw [Nat.pow_add, pow52]
  have e53 : 2 ^ (52 + d + 1) = 9007199254740992 * 2 ^ d := by rw [show 52 + d + 1 = 53 + d by omega, Nat.pow_add, pow53]
  have k1 : 4503599627370496 ≤ k := half_lo hY hr (by rw [← e52]; exact hlo)
  have k2 : k ≤ 9007199254740992 := half_hi hY hr (by rw [← e53]; omega)
  rw [Nat.min_eq_left (by omega)]
  by_cases h53 : k = 9007199254740992
  · refine ⟨4503599627370496, p + d + 1, 1, ⟨rfl, Nat.le_refl _, Nat.le_refl _, by omega, ?_, ?_⟩, ?_⟩
    · have := hr.lo
      have e : 4503599627370496 * 2 ^ (d + 1) = k * 2 ^ d := by rw [h53, Nat.pow_succ, Nat.mul_comm (2 ^ d) 2, ← Nat.mul_assoc]
      rw [e]; exact this
    · have := hr.hi
      have e : 4503599627370496 * 2 ^ (d + 1) = k * 2 ^ d := by rw [h53, Nat.pow_succ, Nat.mul_comm (2 ^ d) 2, ← Nat.mul_assoc]
      rw [e]; exact this
    · rw [h53, show a * 4503599627370496 + 9007199254740992 = (a + 1) * 4503599627370496 + 4503599627370496 by omega, read_word _ _ (Nat.le_refl _) (by omega) (by omega)]
      congr 1
      omega
  · refine ⟨k, p + d, 0, ⟨by omega, by omega, k1, by omega, hr.lo, hr.hi⟩, ?_⟩
    rw [read_word _ _ k1 (by omega) (by omega)]
    congr 1
    omega

theorem half_read : Ieee.double.read 4602678819172646912 = .number false 4503599627370496 (-53) := by decide +kernel
theorem mul_gen (f : Ieee.Format) (x y K J : Nat) (i j : Int) (hx : f.read x = .number false K i) (hy : f.read y = .number false J j) : f.mul x y = some (f.nearest false (K * J) (i + j)) := by
  unfold Ieee.Format.mul
  rw [hx, hy]
  rfl
theorem add_gen (f : Ieee.Format) (x y K J : Nat) (i j : Int) (hx : f.read x = .number false K i) (hy : f.read y = .number false J j) (hp : 0 < K <<< (i - min i j).toNat + J <<< (j - min i j).toNat) :
    f.add x y = some (f.nearest false (K <<< (i - min i j).toNat + J <<< (j - min i j).toNat) (min i j)) := by
  unfold Ieee.Format.add
  rw [hx, hy]
  show some (f.write (.number (if (((K <<< (i - min i j).toNat : Nat) : Int) + ((J <<< (j - min i j).toNat : Nat) : Int)) = 0 then false && false else decide ((((K <<< (i - min i j).toNat : Nat) : Int) + ((J <<< (j - min i j).toNat : Nat) : Int)) < 0)) (((K <<< (i - min i j).toNat : Nat) : Int) + ((J <<< (j - min i j).toNat : Nat) : Int)).natAbs (min i j))) = _
  generalize K <<< (i - min i j).toNat = A at *
  generalize J <<< (j - min i j).toNat = B at *
  rw [if_neg (by omega), decide_eq_false (by omega), show ((A : Int) + (B : Int)).natAbs = A + B by omega]
  rfl
theorem toInt_gen (K r : Nat) (i : Int) (hi : i = -(r : Int)) (hr : r ≤ K.log2 + 2) : (Ieee.Datum.number false K i).toInt .zero = some ((K / 2 ^ r : Nat) : Int) := by
  subst hi
  unfold Ieee.Datum.toInt Ieee.Datum.integral
  have e1 : (-(r : Int)).toNat = 0 := by omega
  have e2 : (- -(r : Int)).toNat = r := by omega
  simp only [e1, e2, Nat.shiftLeft_zero]
  unfold Ieee.Toward.cut
  rw [Nat.min_eq_left hr, Nat.one_shiftLeft]
  simp [Ieee.signed]

theorem zero_back (t : Nat) (h2 : 1 ≤ t) (h3 : t ≤ 65536) : ∃ y z, Ieee.double.mul (partW 0 t) (Ieee.double.nearest false t 0) = some y ∧ Ieee.double.add y 4602678819172646912 = some z ∧ (Ieee.double.read z).toInt .zero = some 0 := by
  have ht0 : t ≠ 0 := by omega
  have hlt : t.log2 ≤ 16 := log2_le t 16 (by omega)
  refine ⟨0, 4602678819172646912, ?_, by decide +kernel, by decide +kernel⟩
  rw [part_zero t h2 h3, mul_gen _ _ _ _ _ _ _ read_zero (fl_read t ht0 (by omega)), Nat.zero_mul]
  rfl
theorem fin_q {l Y S Q g : Nat} (y1 : Y ≤ l * 9007199254740992 + 262144) (y2 : l * 9007199254740992 ≤ Y + 262144) (hS : S = Y + 4503599627370496) (p1 : 2 * Q ≤ 2 * S + g) (p2 : 2 * S ≤ 2 * Q + g) (hg : g ≤ 131072) : l * 9007199254740992 ≤ Q ∧ Q < l * 9007199254740992 + 9007199254740992 := by omega
theorem parts_back (l t : Nat) (h0 : 1 ≤ l) (h1 : l ≤ t) (h3 : t ≤ 65536) : ∃ y z, Ieee.double.mul (partW l t) (Ieee.double.nearest false t 0) = some y ∧ Ieee.double.add y 4602678819172646912 = some z ∧ (Ieee.double.read z).toInt .zero = some (l : Int) := by
  have ht0 : t ≠ 0 := by omega
  have hlt : t.log2 ≤ 16 := log2_le t 16 (by omega)
  obtain ⟨F, k, hF, k1, k2, hw⟩ := part_pos l t h0 h1 h3
  obtain ⟨b1, b2⟩ := shifted t ht0 (by omega)
  have hFs := hF.small
  have hr1 := hF.rne.lo
  have hr2 := hF.rne.hi
  have hx := read_word (1022 - F) k k1 k2 (by omega)
  rw [← hw] at hx
  have hmul := mul_gen _ _ _ _ _ _ _ hx (fl_read t ht0 (by omega))
  obtain ⟨T, hT⟩ : ∃ T, T = t.log2 := ⟨_, rfl⟩
  rw [← hT] at hmul b1 b2 hlt
  obtain ⟨B, hB⟩ : ∃ B, B = t * 2 ^ (52 - T) := ⟨_, rfl⟩
  rw [← hB] at hmul b1 b2
  obtain ⟨M, hM⟩ : ∃ M, M = k * B := ⟨_, rfl⟩
  rw [← hM] at hmul
  have hM1 : 4503599627370496 * 4503599627370496 ≤ M := by rw [hM]; exact Nat.mul_le_mul k1 b1
  have hM2 : M < 9007199254740992 * 9007199254740992 := by rw [hM]; exact Nat.mul_lt_mul'' k2 b2
  have hM0 : M ≠ 0 := by omega
  obtain ⟨d, hd, hd1, hd2⟩ : ∃ d, M.log2 = 52 + d ∧ 52 ≤ d ∧ d ≤ 53 := by
    by_cases hc : M < 2 ^ 105
    · exact ⟨52, log2_is (by rw [show (2 : Nat) ^ (52 + 52) = 4503599627370496 * 4503599627370496 by decide]; exact hM1) hc, by omega, by omega⟩
    · exact ⟨53, log2_is (Nat.le_of_not_lt hc) (by rw [show (2 : Nat) ^ (52 + 53 + 1) = 9007199254740992 * 9007199254740992 by decide]; exact hM2), by omega, by omega⟩
  have hp : (((1022 - F : Nat) : Int) - 1074 + ((T : Int) - 52)) = (T : Int) - 104 - F := by omega
  rw [hp] at hmul
  obtain ⟨K, i, e, hN, hy⟩ := nearest_many M d ((T : Int) - 104 - F) hd (by omega) hM0 (by omega) (by omega)
  -- what y is, times G
  obtain ⟨G, hG⟩ : ∃ G, G = 2 ^ (104 + F - T) := ⟨_, rfl⟩
  have hG88 : 309485009821345068724781056 ≤ G := by
    rw [hG, show 309485009821345068724781056 = 2 ^ 88 by decide]; exact Nat.pow_le_pow_right (by omega) (by omega)
  have hs : 2 ^ (52 + F) * 2 ^ (52 - T) = G := by rw [hG, ← Nat.pow_add]; congr 1; omega
  have n1 : 2 * M ≤ 2 * (l * G) + B := by
    have := Nat.mul_le_mul_right (2 ^ (52 - T)) hr1
    rw [Nat.add_mul, ← hB, Nat.mul_assoc 2, Nat.mul_assoc 2, Nat.mul_assoc k, ← hB, ← hM, Nat.mul_assoc l, hs] at this
    exact this
  have n2 : 2 * (l * G) ≤ 2 * M + B := by
    have := Nat.mul_le_mul_right (2 ^ (52 - T)) hr2
    rw [Nat.add_mul, ← hB, Nat.mul_assoc 2, Nat.mul_assoc 2, Nat.mul_assoc k, ← hB, ← hM, Nat.mul_assoc l, hs] at this
    exact this
  have hdp : 2 ^ d ≤ 9007199254740992 := by rw [← pow53]; exact Nat.pow_le_pow_right (by omega) hd2
  have m1 := hN.near1
  have m2 := hN.near2
  have c1 : K * 2 ^ (d + e) ≤ l * G + 9007199254740992 := by omega
  have c2 : l * G ≤ K * 2 ^ (d + e) + 9007199254740992 := by omega
  have hfew := hN.few
  have hpl := hN.pl
  have hKlo := hN.lo
  have hKhi := hN.hi
  have hlG1 : G ≤ l * G := Nat.le_mul_of_pos_left G h0
  have hlG2 : l * G ≤ 65536 * G := Nat.mul_le_mul_right G (by omega)
  -- the place of y
  have hi1 : -53 ≤ i := by
    rcases Int.lt_or_le i (-53) with hi | hi
    · exfalso
      have hsm : 53 + (d + e) + 1 ≤ 104 + F - T := by omega
      have hq : 2 ^ (53 + (d + e) + 1) ≤ G := by rw [hG]; exact Nat.pow_le_pow_right (by omega) hsm
      rw [Nat.pow_succ, Nat.pow_add, pow53] at hq
      have hk : K * 2 ^ (d + e) ≤ 9007199254740992 * 2 ^ (d + e) := Nat.mul_le_mul_right _ (by omega)
      omega
    · exact hi
  obtain ⟨u, hu⟩ : ∃ u : Nat, u = (i + 53).toNat := ⟨_, rfl⟩
  have hYG : K * 2 ^ u * G = K * 2 ^ (d + e) * 9007199254740992 := by
    rw [hG, ← pow53, Nat.mul_assoc, Nat.mul_assoc, ← Nat.pow_add, ← Nat.pow_add]
    congr 2
    omega
  obtain ⟨Y, hY⟩ : ∃ Y, Y = K * 2 ^ u := ⟨_, rfl⟩
  rw [← hY] at hYG
  have y1 : Y ≤ l * 9007199254740992 + 262144 := by
    rcases Nat.lt_or_ge (l * 9007199254740992 + 262144) Y with hc | hc
    · exfalso
      have h4 := Nat.mul_le_mul_right G (Nat.succ_le_of_lt hc)
      have h5 : (l * 9007199254740992 + 262144).succ * G = l * G * 9007199254740992 + 262145 * G := by
        rw [Nat.succ_eq_add_one, Nat.add_assoc, Nat.add_mul, Nat.mul_right_comm]
      rw [h5, hYG] at h4
      omega
    · exact hc
  have y2 : l * 9007199254740992 ≤ Y + 262144 := by
    rcases Nat.lt_or_ge (Y + 262144) (l * 9007199254740992) with hc | hc
    · exfalso
      have h4 := Nat.mul_le_mul_right G (Nat.succ_le_of_lt hc)
      have h5 : (Y + 262144).succ * G = Y * G + 262145 * G := by
        rw [Nat.succ_eq_add_one, Nat.add_assoc, Nat.add_mul]
      have h6 : l * 9007199254740992 * G = l * G * 9007199254740992 := Nat.mul_right_comm _ _ _
      rw [h5, h6, hYG] at h4
      omega
    · exact hc
  -- the sum
  have hmin : min i (-53) = -53 := by omega
  have hadd := add_gen Ieee.double _ _ _ _ _ _ hy half_read (by rw [hmin, show ((-53 : Int) - -53).toNat = 0 from rfl, Nat.shiftLeft_zero]; exact Nat.add_pos_right _ (by decide))
  rw [hmin, show ((-53 : Int) - -53).toNat = 0 from rfl, show (i - -53).toNat = u by omega, Nat.shiftLeft_zero, Nat.shiftLeft_eq, ← hY] at hadd
  obtain ⟨S, hS⟩ : ∃ S, S = Y + 4503599627370496 := ⟨_, rfl⟩
  rw [← hS] at hadd
  have hS1 : 9007199254740992 ≤ S := by omega
  have hS2 : S < 1180591620717411303424 := by omega
  obtain ⟨d2, hd3, hd4, hd5⟩ : ∃ d2, S.log2 = 52 + d2 ∧ 1 ≤ d2 ∧ d2 ≤ 17 := by
    have a1 : 53 ≤ S.log2 := by
      have := (Nat.pow_lt_pow_iff_right (a := 2) (by omega)).1 (Nat.lt_of_le_of_lt (show 2 ^ 53 ≤ S by rw [pow53]; exact hS1) (log2_hi S))
      omega
    have a2 : S.log2 ≤ 69 := log2_le S 69 (by rw [show (2 : Nat) ^ (69 + 1) = 1180591620717411303424 by decide]; exact hS2)
    exact ⟨S.log2 - 52, by omega, by omega, by omega⟩
  obtain ⟨K2, i2, e2, hN2, hz⟩ := nearest_many S d2 (-53) hd3 hd4 (by omega) (by omega) (by omega)
  refine ⟨_, _, hmul, hadd, ?_⟩
  rw [hz]
  have p1 := hN2.near1
  have p2 := hN2.near2
  have hK2lo := hN2.lo
  have hK2hi := hN2.hi
  have hfew2 := hN2.few
  have hpl2 := hN2.pl
  have hdp2 : 2 ^ d2 ≤ 131072 := by rw [show 131072 = 2 ^ 17 by decide]; exact Nat.pow_le_pow_right (by omega) hd5
  obtain ⟨r, hr⟩ : ∃ r, r = 53 - d2 - e2 := ⟨_, rfl⟩
  have hlogK : K2.log2 = 52 := log2_is (by rw [pow52]; exact hK2lo) (by rw [pow53]; exact hK2hi)
  rw [toInt_gen K2 r i2 (by omega) (by omega)]
  congr 2
  have hrr : 2 ^ r * 2 ^ (d2 + e2) = 9007199254740992 := by rw [← pow53, ← Nat.pow_add]; congr 1; omega
  have hpos : 0 < 2 ^ (d2 + e2) := Nat.two_pow_pos _
  have hfq := fin_q y1 y2 hS p1 p2 hdp2
  have q1 : l * 2 ^ r ≤ K2 := by
    refine Nat.le_of_mul_le_mul_right ?_ hpos
    rw [Nat.mul_assoc, hrr]
    exact hfq.1
  have q2 : K2 < (l + 1) * 2 ^ r := by
    refine Nat.lt_of_mul_lt_mul_right (a := 2 ^ (d2 + e2)) ?_
    rw [Nat.mul_assoc, hrr, Nat.add_mul, Nat.one_mul]
    exact hfq.2
  exact Nat.div_eq_of_lt_le q1 q2
end Li
end Go.Proofs.Ytgdfmoehbgmfkaa
