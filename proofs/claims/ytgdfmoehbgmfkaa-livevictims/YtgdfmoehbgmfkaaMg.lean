/- The parts as floats: they stand to each other as the fractions do. -/
import Derived.Test.YtgdfmoehbgmfkaaMf
namespace Go.Proofs.Ytgdfmoehbgmfkaa
open Go.RowKit
namespace Li
def ordN (x y : Int) : Ordering := if x < y then .lt else if x = y then .eq else .gt
theorem cmp_int (x y : Int) : compare x y = ordN x y := rfl
theorem ordN_lt {x y : Int} (h : x < y) : ordN x y = .lt := if_pos h
theorem ordN_gt {x y : Int} (h : y < x) : ordN x y = .gt := by unfold ordN; rw [if_neg (by omega), if_neg (by omega)]
theorem ordN_eq {x y : Int} (h : x = y) : ordN x y = .eq := by unfold ordN; rw [if_neg (by omega), if_pos h]
theorem order_gen (f : Ieee.Format) (x y K J : Nat) (i j : Int) (hx : f.read x = .number false K i) (hy : f.read y = .number false J j) :
    f.order x y = some (ordN ((K <<< (i - min i j).toNat : Nat) : Int) ((J <<< (j - min i j).toNat : Nat) : Int)) := by
  unfold Ieee.Format.order
  rw [hx, hy]
  rfl
theorem order_words (a b K J : Nat) (h1 : 4503599627370496 ≤ K) (h2 : K < 9007199254740992) (h3 : 4503599627370496 ≤ J) (h4 : J < 9007199254740992) (ha : a ≤ 2044) (hb : b ≤ 2044) :
    Ieee.double.order (a * 4503599627370496 + K) (b * 4503599627370496 + J) = some (ordN ((a * 4503599627370496 + K : Nat) : Int) ((b * 4503599627370496 + J : Nat) : Int)) := by
  rw [order_gen _ _ _ _ _ _ _ (read_word a K h1 h2 ha) (read_word b J h3 h4 hb)]
  congr 1
  rcases Nat.lt_trichotomy a b with hl | hl | hl
  · have e1 : ((a : Int) - 1074 - min ((a : Int) - 1074) ((b : Int) - 1074)).toNat = 0 := by omega
    have e2 : ((b : Int) - 1074 - min ((a : Int) - 1074) ((b : Int) - 1074)).toNat = (b - a - 1) + 1 := by omega
    rw [e1, e2, Nat.shiftLeft_zero, Nat.shiftLeft_eq, Nat.pow_succ]
    have hp : 1 ≤ 2 ^ (b - a - 1) := Nat.two_pow_pos _
    have : J * 1 ≤ J * 2 ^ (b - a - 1) := Nat.mul_le_mul_left J hp
    rw [← Nat.mul_assoc]
    generalize J * 2 ^ (b - a - 1) = Z at *
    rw [ordN_lt (by omega), ordN_lt (by omega)]
  · subst hl
    have e1 : ((a : Int) - 1074 - min ((a : Int) - 1074) ((a : Int) - 1074)).toNat = 0 := by omega
    rw [e1, Nat.shiftLeft_zero, Nat.shiftLeft_zero]
    rcases Nat.lt_trichotomy K J with hk | hk | hk
    · rw [ordN_lt (by omega), ordN_lt (by omega)]
    · rw [ordN_eq (by omega), ordN_eq (by omega)]
    · rw [ordN_gt (by omega), ordN_gt (by omega)]
  · have e1 : ((b : Int) - 1074 - min ((a : Int) - 1074) ((b : Int) - 1074)).toNat = 0 := by omega
    have e2 : ((a : Int) - 1074 - min ((a : Int) - 1074) ((b : Int) - 1074)).toNat = (a - b - 1) + 1 := by omega
    rw [e1, e2, Nat.shiftLeft_zero, Nat.shiftLeft_eq, Nat.pow_succ]
    have hp : 1 ≤ 2 ^ (a - b - 1) := Nat.two_pow_pos _
    have : K * 1 ≤ K * 2 ^ (a - b - 1) := Nat.mul_le_mul_left K hp
    rw [← Nat.mul_assoc]
    generalize K * 2 ^ (a - b - 1) = Z at *
    rw [ordN_gt (by omega), ordN_gt (by omega)]
theorem order_zero_left (a K : Nat) (h1 : 4503599627370496 ≤ K) (h2 : K < 9007199254740992) (ha : a ≤ 2044) : Ieee.double.order 0 (a * 4503599627370496 + K) = some .lt := by
  rw [order_gen _ _ _ _ _ _ _ read_zero (read_word a K h1 h2 ha), Nat.zero_shiftLeft, Nat.shiftLeft_eq]
  have : 1 ≤ 2 ^ ((a : Int) - 1074 - min (-1074) ((a : Int) - 1074)).toNat := Nat.two_pow_pos _
  have : K * 1 ≤ K * 2 ^ ((a : Int) - 1074 - min (-1074) ((a : Int) - 1074)).toNat := Nat.mul_le_mul_left K this
  generalize K * 2 ^ ((a : Int) - 1074 - min (-1074) ((a : Int) - 1074)).toNat = Z at *
  rw [ordN_lt (by omega)]
theorem order_zero_right (a K : Nat) (h1 : 4503599627370496 ≤ K) (h2 : K < 9007199254740992) (ha : a ≤ 2044) : Ieee.double.order (a * 4503599627370496 + K) 0 = some .gt := by
  rw [order_gen _ _ _ _ _ _ _ (read_word a K h1 h2 ha) read_zero, Nat.zero_shiftLeft, Nat.shiftLeft_eq]
  have : 1 ≤ 2 ^ ((a : Int) - 1074 - min ((a : Int) - 1074) (-1074)).toNat := Nat.two_pow_pos _
  have : K * 1 ≤ K * 2 ^ ((a : Int) - 1074 - min ((a : Int) - 1074) (-1074)).toNat := Nat.mul_le_mul_left K this
  generalize K * 2 ^ ((a : Int) - 1074 - min ((a : Int) - 1074) (-1074)).toNat = Z at *
  rw [ordN_gt (by omega)]
theorem order_zero : Ieee.double.order 0 0 = some .eq := by
  rw [order_gen _ _ _ _ _ _ _ read_zero read_zero]
  rfl

theorem Fq.lt {l t F k : Nat} (h : Fq l t F k) (h3 : t ≤ 65536) : k < 9007199254740992 := by
  have h1 := h.hi
  have h2 := h.rne.lo
  have e : l * 2 ^ (52 + F) = l * 2 ^ F * 4503599627370496 := by rw [Nat.add_comm, Nat.pow_add, pow52, Nat.mul_assoc]
  rw [e] at h2
  generalize l * 2 ^ F = Z at *
  rcases Nat.lt_or_ge k 9007199254740992 with hk | hk
  · exact hk
  · exfalso
    have := Nat.mul_le_mul_right t hk
    omega
theorem Fq.le {l t F k l' t' F' k' : Nat} (h : Fq l t F k) (h' : Fq l' t' F' k') (hx : l * t' ≤ l' * t) : F' ≤ F := by
  rcases Nat.lt_or_ge F F' with hf | hf
  · exfalso
    have h1 : l' * 2 ^ F < t' := by
      have hp : 2 ^ (F + 1) ≤ 2 ^ F' := Nat.pow_le_pow_right (by omega) hf
      have := Nat.mul_le_mul_left l' hp
      have h2 := h'.hi
      rw [Nat.pow_succ, ← Nat.mul_assoc] at this
      omega
    have h2 := h.lo
    have ht : 0 < t := by
      rcases Nat.eq_zero_or_pos t with e | e
      · have := h.hi; rw [e] at this; omega
      · exact e
    have h3 : t * (l' * 2 ^ F) < t * t' := Nat.mul_lt_mul_of_pos_left h1 ht
    have h4 : t * t' ≤ l * 2 ^ F * t' := Nat.mul_le_mul_right t' h2
    have h5 : l * 2 ^ F * t' = (l * t') * 2 ^ F := Nat.mul_right_comm _ _ _
    have h6 : t * (l' * 2 ^ F) = (l' * t) * 2 ^ F := by rw [Nat.mul_comm t, Nat.mul_right_comm]
    have h7 := Nat.mul_le_mul_right (2 ^ F) hx
    omega
  · exact hf
theorem Fq.eq {l t F k l' t' F' k' : Nat} (ht : 0 < t) (ht' : 0 < t') (h : Fq l t F k) (h' : Fq l' t' F' k') (hx : l * t' = l' * t) : F = F' ∧ k = k' := by
  have hF : F = F' := Nat.le_antisymm (h'.le h (by omega)) (h.le h' (by omega))
  subst hF
  refine ⟨rfl, ?_⟩
  have r1 := h.rne.mul t' ht'
  have r2 := h'.rne.mul t ht
  have e1 : t' * (l * 2 ^ (52 + F)) = t * (l' * 2 ^ (52 + F)) := by
    generalize 2 ^ (52 + F) = Z
    rw [← Nat.mul_assoc, ← Nat.mul_assoc, Nat.mul_comm t' l, Nat.mul_comm t l', hx]
  rw [e1, Nat.mul_comm t' t] at r1
  exact Rne.uniq (Nat.mul_pos ht ht') r1 r2
theorem Fq.less {l t F k l' t' F' k' : Nat} (ht : t ≤ 65536) (ht' : t' ≤ 65536) (h : Fq l t F k) (h' : Fq l' t' F' k') (hk' : 4503599627370496 ≤ k') (hx : l * t' < l' * t) : (1022 - F) * 4503599627370496 + k < (1022 - F') * 4503599627370496 + k' := by
  have hF := h.le h' (by omega)
  have hk := h.lt ht
  have s1 := h.small
  have s2 := h'.small
  by_cases e : F' = F
  · subst e
    have : k < k' := by
      rcases Nat.lt_or_ge k k' with hh | hh
      · exact hh
      · exfalso
        have a1 := h.rne.lo
        have a2 := h'.rne.hi
        have b1 := Nat.mul_le_mul_right t a2
        have b2 := Nat.mul_le_mul_right t' a1
        rw [Nat.add_mul, Nat.mul_assoc 2] at b1
        rw [Nat.add_mul, Nat.mul_assoc 2, Nat.mul_assoc 2] at b2
        have c1 : 2 * (k' * t') * t = 2 * (k' * (t' * t)) := by rw [Nat.mul_assoc, Nat.mul_assoc k']
        have c2 : (k * t) * t' = k * (t' * t) := by rw [Nat.mul_assoc, Nat.mul_comm t t']
        have c3 := Nat.mul_le_mul_right (t' * t) hh
        have d1 : l' * 2 ^ (52 + F') * t = (l' * t) * 2 ^ (52 + F') := Nat.mul_right_comm _ _ _
        have d2 : l * 2 ^ (52 + F') * t' = (l * t') * 2 ^ (52 + F') := Nat.mul_right_comm _ _ _
        have d3 := Nat.mul_le_mul_right (2 ^ (52 + F')) (Nat.succ_le_of_lt hx)
        rw [Nat.succ_mul] at d3
        have d4 : 4503599627370496 ≤ 2 ^ (52 + F') := by rw [← pow52]; exact Nat.pow_le_pow_right (by omega) (by omega)
        have d5 : t' * t ≤ 4294967296 := Nat.mul_le_mul ht' ht
        have d6 : t * t' = t' * t := Nat.mul_comm _ _
        rw [d1] at b1
        rw [d2, c2] at b2
        rw [c1] at b1
        clear d1 d2 c1 c2 a1 a2 hx h h'
        generalize 2 ^ (52 + F') = Z at *
        generalize l' * t * Z = Y1 at *
        generalize l * t' * Z = Y2 at *
        rw [d6] at b2
        generalize k' * (t' * t) = Y3 at *
        generalize k * (t' * t) = Y4 at *
        generalize t' * t = Y5 at *
        omega
    omega
  · omega

/-- The word of a row's part. -/
def partW (l t : Nat) : Nat := if t = 0 then 4607182418800017408 else (Ieee.double.div (Ieee.double.nearest false l 0) (Ieee.double.nearest false t 0)).getD 0
theorem nearest_zero : Ieee.double.nearest false 0 0 = 0 := rfl
theorem div_zero_few (t : Nat) (h1 : 1 ≤ t) (h3 : t ≤ 65536) : Ieee.double.div (Ieee.double.nearest false 0 0) (Ieee.double.nearest false t 0) = some 0 := by
  have ht0 : t ≠ 0 := by omega
  have hlt : t.log2 ≤ 16 := log2_le t 16 (by omega)
  obtain ⟨b1, b2⟩ := shifted t ht0 (by omega)
  unfold Ieee.Format.div
  rw [nearest_zero, read_zero, fl_read t ht0 (by omega)]
  unfold Ieee.Datum.quotient
  have : t * 2 ^ (52 - t.log2) ≠ 0 := by omega
  simp only [this, if_false, Nat.zero_shiftLeft, Nat.zero_div, Nat.zero_mod]
  rfl
theorem div_part (l t : Nat) (h1 : l ≤ t) (h2 : 1 ≤ t) (h3 : t ≤ 65536) : Ieee.double.div (Ieee.double.nearest false l 0) (Ieee.double.nearest false t 0) = some (partW l t) := by
  unfold partW
  rw [if_neg (by omega)]
  rcases Nat.eq_zero_or_pos l with e | e
  · subst e; rw [div_zero_few t h2 h3]; rfl
  · obtain ⟨F, k, _, _, _, hd⟩ := quo_few l t e h1 h3
    rw [hd]; rfl
theorem part_zero (t : Nat) (h2 : 1 ≤ t) (h3 : t ≤ 65536) : partW 0 t = 0 := by
  have := div_part 0 t (by omega) h2 h3
  rw [div_zero_few t h2 h3] at this
  exact (Option.some.inj this).symm
theorem part_pos (l t : Nat) (h0 : 1 ≤ l) (h1 : l ≤ t) (h3 : t ≤ 65536) : ∃ F k, Fq l t F k ∧ 4503599627370496 ≤ k ∧ k < 9007199254740992 ∧ partW l t = (1022 - F) * 4503599627370496 + k := by
  obtain ⟨F, k, hF, hk, _, hd⟩ := quo_few l t h0 h1 h3
  refine ⟨F, k, hF, hk, hF.lt h3, ?_⟩
  have := div_part l t h1 (by omega) h3
  rw [hd] at this
  exact (Option.some.inj this).symm
/-- **The parts as floats stand to each other as the fractions do.** -/
theorem part_order (l t l' t' : Nat) (h1 : l ≤ t) (h2 : 1 ≤ t) (h3 : t ≤ 65536) (h1' : l' ≤ t') (h2' : 1 ≤ t') (h3' : t' ≤ 65536) :
    Ieee.double.order (partW l t) (partW l' t') = some (ordN ((l * t' : Nat) : Int) ((l' * t : Nat) : Int)) := by
  rcases Nat.eq_zero_or_pos l with e | e
  · subst e
    rw [part_zero t h2 h3]
    rcases Nat.eq_zero_or_pos l' with e' | e'
    · subst e'
      rw [part_zero t' h2' h3', order_zero, ordN_eq (by simp)]
    · obtain ⟨F, k, _, hk1, hk2, hw⟩ := part_pos l' t' e' h1' h3'
      rw [hw, order_zero_left _ _ hk1 hk2 (by omega), ordN_lt]
      have : 0 < l' * t := Nat.mul_pos e' h2
      simp only [Nat.zero_mul]; omega
  · obtain ⟨F, k, hF, hk1, hk2, hw⟩ := part_pos l t e h1 h3
    rcases Nat.eq_zero_or_pos l' with e' | e'
    · subst e'
      rw [part_zero t' h2' h3', hw, order_zero_right _ _ hk1 hk2 (by omega), ordN_gt]
      have : 0 < l * t' := Nat.mul_pos e h2'
      simp only [Nat.zero_mul]; omega
    · obtain ⟨F', k', hF', hk1', hk2', hw'⟩ := part_pos l' t' e' h1' h3'
      rw [hw, hw', order_words _ _ _ _ hk1 hk2 hk1' hk2' (by omega) (by omega)]
      congr 1
      rcases Nat.lt_trichotomy (l * t') (l' * t) with hx | hx | hx
      · have := hF.less h3 h3' hF' hk1' hx
        rw [ordN_lt (by omega), ordN_lt (by omega)]
      · obtain ⟨rfl, rfl⟩ := hF.eq (by omega) (by omega) hF' hx
        rw [ordN_eq rfl, ordN_eq (by omega)]
      · have := hF'.less h3' h3 hF hk1 hx
        rw [ordN_gt (by omega), ordN_gt (by omega)]
end Li
end Go.Proofs.Ytgdfmoehbgmfkaa
