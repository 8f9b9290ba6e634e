/- How many sectors sets have: Total counts them; what few spans are; sets out of sectors that are told. -/
import Derived.Test.YthbgniclplfpgaaPf
namespace Go.Proofs.Ythbgniclplfpgaa
namespace Sp
/-- How many numbers below N there are of which f says yes. -/
def cnt (f : Nat → Bool) : Nat → Int
  | 0 => 0
  | N + 1 => cnt f N + if f N then 1 else 0
theorem cnt_congr {f g : Nat → Bool} : ∀ N, (∀ i, i < N → f i = g i) → cnt f N = cnt g N
  | 0, _ => rfl
  | N + 1, h => by simp only [cnt]; rw [cnt_congr N fun i hi => h i (by omega), h N (by omega)]
theorem cnt_or_and {f g : Nat → Bool} : ∀ N, cnt (fun i => f i || g i) N + cnt (fun i => f i && g i) N = cnt f N + cnt g N
  | 0 => rfl
  | N + 1 => by
    have := cnt_or_and (f := f) (g := g) N
    simp only [cnt]
    by_cases hf : f N = true <;> by_cases hg : g N = true <;> simp [hf, hg] <;> omega
theorem cnt_le_left {f g : Nat → Bool} : ∀ N, cnt (fun i => f i && g i) N ≤ cnt f N
  | 0 => Int.le_refl _
  | N + 1 => by
    have := cnt_le_left (f := f) (g := g) N
    simp only [cnt]
    by_cases hf : f N = true <;> by_cases hg : g N = true <;> simp [hf, hg] <;> omega
theorem cnt_nonneg {f : Nat → Bool} : ∀ N, 0 ≤ cnt f N ∧ cnt f N ≤ N
  | 0 => by simp [cnt]
  | N + 1 => by
    have := cnt_nonneg (f := f) N
    simp only [cnt]
    by_cases hf : f N = true <;> simp [hf] <;> omega
theorem cnt_none {f : Nat → Bool} : ∀ N, (∀ i, i < N → f i = false) → cnt f N = 0
  | 0, _ => rfl
  | N + 1, h => by simp only [cnt]; rw [cnt_none N fun i hi => h i (by omega), h N (by omega)]; rfl
/-- A span's sectors, counted. -/
theorem cnt_span {x : Int × Int} (h0 : 0 ≤ x.1) (h1 : 0 ≤ x.2) : ∀ N : Nat, cnt (fun i => decide (x.1 ≤ (i : Int)) && decide ((i : Int) < x.1 + x.2)) N = if (N : Int) ≤ x.1 then 0 else if (N : Int) ≤ x.1 + x.2 then (N : Int) - x.1 else x.2
  | 0 => by simp [cnt]; omega
  | N + 1 => by
    simp only [cnt]
    rw [cnt_span h0 h1 N]
    by_cases h2 : x.1 ≤ (N : Int)
    · by_cases h3 : (N : Int) < x.1 + x.2
      · simp only [h2, h3, decide_true, Bool.and_self, if_true]
        split <;> split <;> (try split) <;> (try split) <;> omega
      · simp only [h2, h3, decide_true, decide_false, Bool.and_false, Bool.false_eq_true, if_false]
        split <;> split <;> (try split) <;> (try split) <;> omega
    · simp only [h2, decide_false, Bool.false_and, Bool.false_eq_true, if_false]
      split <;> split <;> (try split) <;> (try split) <;> omega
theorem sumTo_left {xs ys : List (Int × Int)} : ∀ k, k ≤ xs.length → sumTo (xs ++ ys) k = sumTo xs k
  | 0, _ => rfl
  | k + 1, h => by simp only [sumTo]; rw [sumTo_left k (by omega), nth_left (by omega)]
theorem total_snoc {xs : List (Int × Int)} {x : Int × Int} : total (xs ++ [x]) = total xs + x.2 := by
  unfold total
  rw [List.length_append, List.length_cons, List.length_nil]
  simp only [sumTo]
  rw [sumTo_left _ (Nat.le_refl _), nth_last]
theorem total_cnt_aux : ∀ (n : Nat) {xs : List (Int × Int)}, xs.length = n → setB xs = true → ∀ N : Nat, (∀ i, wi xs i = true → i < (N : Int)) → total xs = cnt (fun i => wi xs i) N := by
  intro n
  induction n with
  | zero =>
    intro xs hl hs N hN
    have : xs = [] := List.eq_nil_of_length_eq_zero hl
    subst this
    rw [cnt_none N fun i _ => by simp [wi]]
    rfl
  | succ n ih =>
    intro xs hl hs N hN
    rcases List.eq_nil_or_concat xs with rfl | ⟨zs, x, hz⟩
    · simp at hl
    · rw [List.concat_eq_append] at hz
      subst hz
      have hm := mayB_iff.1 (setB_lastMay hs)
      have hE := setB_lastEnd hs
      have hb : x.1 + x.2 ≤ (N : Int) := by
        have := hN (x.1 + x.2 - 1) (wi_snoc.2 (.inr (by unfold Has1; omega)))
        omega
      rw [total_snoc, ih (by simpa using hl) (setB_left hs) N fun i hi => hN i (wi_snoc.2 (.inl hi))]
      have e1 := cnt_span (x := x) (by omega) (by omega) N
      have e2 := cnt_or_and (f := fun i => wi zs i) (g := fun i => decide (x.1 ≤ (i : Int)) && decide ((i : Int) < x.1 + x.2)) N
      have e3 : cnt (fun i => wi zs i && (decide (x.1 ≤ (i : Int)) && decide ((i : Int) < x.1 + x.2))) N = 0 := cnt_none N fun i _ => by
        cases hw : wi zs (i : Int) with
        | false => rfl
        | true =>
          obtain ⟨k, hk, hh⟩ := wi_iff.1 hw
          have := hE k hk
          unfold Has1 at hh
          simp
          omega
      have e4 : cnt (fun i => wi (zs ++ [x]) i) N = cnt (fun i => wi zs i || (decide (x.1 ≤ (i : Int)) && decide ((i : Int) < x.1 + x.2))) N := cnt_congr N fun i _ => by
        rw [Bool.eq_iff_iff, wi_snoc]
        unfold Has1
        simp
      rw [e4]
      rw [e3, e1] at e2
      rw [if_neg (by omega)] at e2
      split at e2 <;> omega
/-- Total is how many sectors a set has. -/
theorem total_cnt {xs : List (Int × Int)} (hs : setB xs = true) {N : Nat} (hN : ∀ i, wi xs i = true → i < (N : Int)) : total xs = cnt (fun i => wi xs i) N := total_cnt_aux _ rfl hs N hN
theorem total_bd {xs : List (Int × Int)} (hs : setB xs = true) : 0 ≤ total xs ∧ total xs ≤ 65536 := sumTo_bd hs _ (Nat.le_refl _)
theorem set_below {xs : List (Int × Int)} (_hs : setB xs = true) : ∃ N : Nat, N = 65536 ∧ ∀ ys, setB ys = true → ∀ i, wi ys i = true → i < (N : Int) := ⟨65536, rfl, fun _ hy _ hi => (set_bounds hy hi).2⟩
theorem total_join_meet {as bs js ms : List (Int × Int)} (ha : setB as = true) (hb : setB bs = true) (hj : setB js = true) (hm : setB ms = true) (h1 : ∀ i, wi js i = true ↔ wi as i = true ∨ wi bs i = true) (h2 : ∀ i, wi ms i = true ↔ wi as i = true ∧ wi bs i = true) : total js + total ms = total as + total bs := by
  obtain ⟨N, _, hN⟩ := set_below ha
  rw [total_cnt ha (hN _ ha), total_cnt hb (hN _ hb), total_cnt hj (hN _ hj), total_cnt hm (hN _ hm)]
  have e1 : cnt (fun i => wi js i) N = cnt (fun i => wi as i || wi bs i) N := cnt_congr _ fun i _ => by rw [Bool.eq_iff_iff, h1]; simp
  have e2 : cnt (fun i => wi ms i) N = cnt (fun i => wi as i && wi bs i) N := cnt_congr _ fun i _ => by rw [Bool.eq_iff_iff, h2]; simp
  rw [e1, e2]
  exact cnt_or_and N
theorem total_cut_meet {as bs cs ms : List (Int × Int)} (ha : setB as = true) (hc : setB cs = true) (hm : setB ms = true) (h1 : ∀ i, wi cs i = true ↔ wi as i = true ∧ ¬ wi bs i = true) (h2 : ∀ i, wi ms i = true ↔ wi as i = true ∧ wi bs i = true) : total cs + total ms = total as := by
  obtain ⟨N, _, hN⟩ := set_below ha
  rw [total_cnt ha (hN _ ha), total_cnt hc (hN _ hc), total_cnt hm (hN _ hm)]
  have := cnt_or_and (f := fun i => wi cs i) (g := fun i => wi ms i) N
  rw [← this]
  have e1 : cnt (fun i => wi cs i && wi ms i) N = 0 := cnt_none _ fun i _ => by
    rw [Bool.eq_false_iff]
    intro h
    simp only [Bool.and_eq_true] at h
    exact ((h1 i).1 h.1).2 ((h2 i).1 h.2).2
  rw [e1, Int.add_zero]
  exact cnt_congr _ fun i _ => by
    rw [Bool.eq_iff_iff]
    simp only [Bool.or_eq_true, h1, h2]
    cases wi bs (i : Int) <;> simp
theorem total_meet_le {as ms : List (Int × Int)} (ha : setB as = true) (hm : setB ms = true) (h2 : ∀ i, wi ms i = true → wi as i = true) : total ms ≤ total as := by
  obtain ⟨N, _, hN⟩ := set_below ha
  rw [total_cnt ha (hN _ ha), total_cnt hm (hN _ hm)]
  have : cnt (fun i => wi ms i) N = cnt (fun i => wi as i && wi ms i) N := cnt_congr _ fun i _ => by
    cases h : wi ms (i : Int) with
    | false => simp
    | true => simp [h2 _ h]
  rw [this]
  exact cnt_le_left _
theorem total_one (x : Int × Int) : total [x] = x.2 := by simp [total, sumTo, nth]

/-- A set whose sectors are told up to 400 is the one that Set makes of them. -/
theorem so_eq {q : Nat → Bool} {ys rs : List (Int × Int)} (h : SO q 400 rs) (hy : setB ys = true) (hb : ∀ i, wi ys i = true → 0 ≤ i ∧ i < 400) (hq : ∀ j : Nat, j < 400 → (q j = true ↔ wi ys j = true)) : ys = rs :=
  set_ext hy h.set fun i => by
    rw [h.mem]
    constructor
    · intro hi
      have := hb i hi
      refine ⟨i.toNat, by omega, by omega, (hq _ (by omega)).2 ?_⟩
      rwa [show ((i.toNat : Nat) : Int) = i by omega]
    · rintro ⟨j, hj, rfl, hh⟩
      exact (hq j hj).1 hh
theorem wi_append {xs ys : List (Int × Int)} {i : Int} : wi (xs ++ ys) i = true ↔ wi xs i = true ∨ wi ys i = true := by simp [wi]
theorem allB_append {xs ys : List (Int × Int)} (hx : allB xs = true) (hy : allB ys = true) : allB (xs ++ ys) = true := by
  unfold allB at *
  rw [List.all_append, hx, hy]; rfl
end Sp
end Go.Proofs.Ythbgniclplfpgaa
