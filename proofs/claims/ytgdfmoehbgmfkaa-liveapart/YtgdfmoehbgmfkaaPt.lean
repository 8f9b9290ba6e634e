/- The insertion sort keeps the order of rows of the same part; what the stable sort leaves. -/
import Derived.Test.YtgdfmoehbgmfkaaPs
import Derived.Sort.LotA
namespace Go.Proofs.Ytgdfmoehbgmfkaa
open Go.RowKit
namespace Li
open Wi
open Go.Sort (SWO PermIn SortedIn swp swp_get swp_size insInner insOuter insertionSort insertionSort_holds permIn_all permIn_mono)
/-- Of two parts the lesser one, or, of the same, the one of the lesser number. -/
def loV (x y : Vr) : Prop := ltV x y = true ∨ (ltV y x = false ∧ x.1.1 < y.1.1)
theorem ltV_iff (x y : Vr) : ltV x y = true ↔ x.1.2.2 * y.1.2.1 < y.1.2.2 * x.1.2.1 := by
  unfold ltV cfV Lib.compareInt
  rw [decide_eq_true_eq]
  split
  · next h => simp [h]
  · split
    · next h h2 => simp; omega
    · next h h2 => simp; omega
theorem ltV_no (x y : Vr) : ltV x y = false ↔ y.1.2.2 * x.1.2.1 ≤ x.1.2.2 * y.1.2.1 := by
  rw [← Bool.not_eq_true, ltV_iff]; omega
theorem ltV_tr (x y z : Vr) (h1 : ltV x y = true) (h2 : ltV y z = true) : ltV x z = true := by
  rw [ltV_iff] at *
  obtain ⟨a1, a2, a3, a4⟩ := x.get
  obtain ⟨b1, b2, b3, b4⟩ := y.get
  obtain ⟨c1, c2, c3, c4⟩ := z.get
  generalize x.1.2.2 = xl at *
  generalize x.1.2.1 = xt at *
  generalize y.1.2.2 = yl at *
  generalize y.1.2.1 = yt at *
  generalize z.1.2.2 = zl at *
  generalize z.1.2.1 = zt at *
  have q1 := Int.mul_lt_mul_of_pos_right h1 c4
  have q2 := Int.mul_lt_mul_of_pos_right h2 a4
  rw [Int.mul_right_comm xl yt zt, Int.mul_right_comm yl xt zt] at q1
  rw [Int.mul_right_comm zl yt xt] at q2
  exact Int.lt_of_mul_lt_mul_right (Int.lt_trans q1 q2) (Int.le_of_lt b4)
theorem ltV_ntr (x y z : Vr) (h1 : ltV x y = false) (h2 : ltV y z = false) : ltV x z = false := by
  rw [ltV_no] at *
  obtain ⟨a1, a2, a3, a4⟩ := x.get
  obtain ⟨b1, b2, b3, b4⟩ := y.get
  obtain ⟨c1, c2, c3, c4⟩ := z.get
  generalize x.1.2.2 = xl at *
  generalize x.1.2.1 = xt at *
  generalize y.1.2.2 = yl at *
  generalize y.1.2.1 = yt at *
  generalize z.1.2.2 = zl at *
  generalize z.1.2.1 = zt at *
  have q1 := Int.mul_le_mul_of_nonneg_right h1 (Int.le_of_lt c4)
  have q2 := Int.mul_le_mul_of_nonneg_right h2 (Int.le_of_lt a4)
  rw [Int.mul_right_comm xl yt zt, Int.mul_right_comm yl xt zt] at q1
  rw [Int.mul_right_comm zl yt xt] at q2
  exact Int.le_of_mul_le_mul_right (Int.le_trans q2 q1) b4
theorem ltV_ir (x : Vr) : ltV x x = false := by rw [ltV_no]; omega
theorem ltOf_eq : ltOf cfV = ltV := rfl
theorem swoV : SWO (ltOf cfV) := ⟨ltV_ir, ltV_tr, ltV_ntr⟩
theorem no_both {x y : Vr} (h : ltV x y = true) : ltV y x = false := by
  cases hq : ltV y x with
  | false => rfl
  | true => have := ltV_tr _ _ _ h hq; rw [ltV_ir] at this; cases this
theorem ordV : Ord loV := by
  refine ⟨fun x y z h1 h2 => ?_, fun x h => ?_, fun x y h => .inl h⟩
  · rcases h1 with h1 | ⟨h1, s1⟩
    · rcases h2 with h2 | ⟨h2, s2⟩
      · exact .inl (ltV_tr _ _ _ h1 h2)
      · refine .inl ?_
        cases hq : ltV x z with
        | true => rfl
        | false => have := ltV_ntr _ _ _ hq h2; rw [h1] at this; cases this
    · rcases h2 with h2 | ⟨h2, s2⟩
      · refine .inl ?_
        cases hq : ltV x z with
        | true => rfl
        | false => have := ltV_ntr _ _ _ h1 hq; rw [h2] at this; cases this
      · exact .inr ⟨ltV_ntr _ _ _ h2 h1, by omega⟩
  · rcases h with h | ⟨_, h⟩
    · rw [ltV_ir] at h; cases h
    · omega
def TiedA (d : Array Vr) : Prop := ∀ i j, i < j → j < d.size → Tie loV d[i]! d[j]!
theorem tied_swp {d : Array Vr} {j : Nat} (h : TiedA d) (hj : j + 1 < d.size) (hl : ltV d[j + 1]! d[j]! = true) : TiedA (swp d (j + 1) j) := by
  intro p q hpq hq
  rw [swp_size] at hq
  rw [swp_get d hj (show j < d.size by omega), swp_get d hj (show j < d.size by omega)]
  by_cases e1 : p = j
  · subst e1
    rw [if_pos rfl]
    by_cases e2 : q = p + 1
    · subst e2
      rw [if_neg (by omega), if_pos rfl]
      exact fun _ => ordV.lt _ _ hl
    · rw [if_neg (by omega), if_neg e2]
      exact h (p + 1) q (by omega) hq
  · rw [if_neg e1]
    by_cases e2 : p = j + 1
    · subst e2
      rw [if_pos rfl, if_neg (by omega), if_neg (by omega)]
      exact h j q (by omega) hq
    · rw [if_neg e2]
      by_cases e3 : q = j
      · subst e3; rw [if_pos rfl]; exact h p (q + 1) (by omega) (by omega)
      · rw [if_neg e3]
        by_cases e4 : q = j + 1
        · subst e4; rw [if_pos rfl]; exact h p j (by omega) (by omega)
        · rw [if_neg e4]; exact h p q hpq hq
theorem tied_inner (a : Nat) : ∀ (j : Nat) (d : Array Vr), j < d.size → TiedA d → TiedA (insInner (ltOf cfV) a j d) ∧ (insInner (ltOf cfV) a j d).size = d.size
  | 0, d, _, h => ⟨h, rfl⟩
  | j + 1, d, hj, h => by
    unfold insInner
    split
    · rename_i hc
      simp only [Bool.and_eq_true, decide_eq_true_eq] at hc
      have ih := tied_inner a j (swp d (j + 1) j) (by rw [swp_size]; omega) (tied_swp h hj hc.2)
      exact ⟨ih.1, ih.2.trans (swp_size _ _ _)⟩
    · exact ⟨h, rfl⟩
theorem tied_outer (a b : Nat) : ∀ (n i : Nat) (d : Array Vr), b - i = n → b ≤ d.size → TiedA d → TiedA (insOuter (ltOf cfV) a b i d)
  | 0, i, d, hn, _, h => by rw [insOuter, if_neg (by omega)]; exact h
  | n + 1, i, d, hn, hb, h => by
    rw [insOuter, if_pos (by omega)]
    have h1 := tied_inner a i d (by omega) h
    exact tied_outer a b n (i + 1) _ (by omega) (by rw [h1.2]; exact hb) h1.1
theorem toA (d : List Vr) (k : Nat) : d.toArray[k]! = d[k]! := by simp
theorem toL (d : Array Vr) (k : Nat) : d.toList[k]! = d[k]! := by rw [← toA d.toList k]
/-- The insertion sort of a stretch. -/
theorem ins_sorts (d : List Vr) (a b : Nat) (hab : a ≤ b) (hb : b ≤ d.length) (hT : Tied loV d) : Mix d (insL d a b) a b ∧ Srt loV (insL d a b) a b := by
  have hbs : b ≤ d.toArray.size := by simpa using hb
  obtain ⟨hP, hS⟩ := insertionSort_holds (lt := ltOf cfV) swoV d.toArray a b hab hbs
  have hTA : TiedA d.toArray := fun i j hij hj => by rw [toA, toA]; exact hT i j hij (by simpa using hj)
  have hT2 : TiedA (insertionSort (ltOf cfV) d.toArray a b) := tied_outer a b _ (a + 1) _ rfl hbs hTA
  have hall := permIn_all d.toArray (insertionSort (ltOf cfV) d.toArray a b) a b (fun x => ∃ k', a ≤ k' ∧ k' < b ∧ x = d[k']!) hbs hP (fun i h1 h2 => ⟨i, h1, h2, toA d i⟩)
  have hmono := permIn_mono d.toArray (insertionSort (ltOf cfV) d.toArray a b) a b 0 d.toArray.size (Nat.zero_le _) hbs (Nat.le_refl _) hP
  unfold insL
  generalize insertionSort (ltOf cfV) d.toArray a b = D at *
  have hsz : D.size = d.length := by rw [hP.1]; simp
  refine ⟨⟨by simpa using hsz, fun k hk => ?_, fun k h1 h2 => ?_, ?_⟩, fun i j hi hij hj => ?_⟩
  · rw [toL, hP.2.1 k hk, toA]
  · rw [toL]; exact hall k h1 h2
  · have h3 := hmono.2.2
    have e1 : d.toArray.extract 0 d.toArray.size = d.toArray := Array.extract_size
    have e2 : D.extract 0 d.toArray.size = D := by rw [← hP.1]; exact Array.extract_size
    rw [e1, e2] at h3
    simpa using h3
  · rw [toL, toL]
    exact hT2 i j hij (by omega) (hS i j hi hij hj)
/-- What Go's stable sort leaves of rows that rise by their numbers. -/
theorem stableV (d : List Vr) (hr : d.Pairwise (fun x y => x.1.1 < y.1.1)) : (stableL d d.length).Perm d ∧ (stableL d d.length).Pairwise loV := by
  have hT : Tied loV d := fun i j hij hj hno => .inr ⟨hno, by
    rw [getElem!_pos d i (by omega), getElem!_pos d j hj]
    exact List.pairwise_iff_getElem.1 hr i j (by omega) hj hij⟩
  obtain ⟨h1, h2⟩ := stable_sorts ordV ins_sorts d hT
  refine ⟨h1, List.pairwise_iff_getElem.2 fun i j hi hj hij => ?_⟩
  have h3 := h2 i j (Nat.zero_le _) hij (by rw [← h1.length_eq]; exact hj)
  rwa [getElem!_pos _ i hi, getElem!_pos _ j hj] at h3
end Li
end Go.Proofs.Ytgdfmoehbgmfkaa
