/- Numbers in their order, each once; numbers that follow one another; no program. -/
import Derived.Lib.SlicesCompact
import Derived.Lib.RowBridge
import Derived.Test.YtnfakgdgjkgekaaDoorMb
namespace Go.Proofs.YtnfakgdgjkgekaaDoor
namespace Wi

/-- Numbers in their order, each once. -/
def SR (zs : List Int) : List Int := Lib.compact (zs.mergeSort fun x y => decide (x ≤ y))
theorem sorted_ms (zs : List Int) : (zs.mergeSort fun x y => decide (x ≤ y)).Pairwise (· ≤ ·) := by
  have h := List.pairwise_mergeSort (le := fun x y : Int => decide (x ≤ y)) (fun a b c h1 h2 => by simp only [decide_eq_true_eq] at h1 h2 ⊢; omega) (fun a b => by simp only [Bool.or_eq_true, decide_eq_true_eq]; omega) zs
  exact h.imp fun h => by simpa using h
theorem mem_ms (zs : List Int) (x : Int) : x ∈ zs.mergeSort (fun x y => decide (x ≤ y)) ↔ x ∈ zs := (List.mergeSort_perm zs _).mem_iff
theorem keeps_iff (zs : List Int) (j : Nat) : Lib.keeps zs.toArray j = true ↔ j = 0 ∨ zs.toArray[j]! ≠ zs.toArray[j - 1]! := by simp [Lib.keeps]
theorem mem_compact (zs : List Int) (x : Int) : x ∈ Lib.compact zs ↔ x ∈ zs := by
  unfold Lib.compact Lib.compactUpTo
  rw [List.mem_map]
  constructor
  · rintro ⟨j, hj, rfl⟩
    have hj' := List.mem_range.1 (List.mem_filter.1 hj).1
    rw [getElem!_pos zs.toArray j (by simpa using hj')]
    simp
  · intro hx
    obtain ⟨k, hk⟩ := List.getElem?_of_mem hx
    have key : ∀ n k : Nat, k ≤ n → zs[k]? = some x → ∃ j : Nat, zs[j]? = some x ∧ (j = 0 ∨ zs[j - 1]? ≠ some x) := by
      intro n
      induction n with
      | zero => intro k hk h; exact ⟨k, h, .inl (by omega)⟩
      | succ n ih =>
        intro k hk h
        cases k with
        | zero => exact ⟨0, h, .inl rfl⟩
        | succ k =>
          by_cases h2 : zs[k]? = some x
          · exact ih k (by omega) h2
          · exact ⟨k + 1, h, .inr h2⟩
    obtain ⟨j, hj, hor⟩ := key k k (Nat.le_refl _) hk
    obtain ⟨hlt, he⟩ := List.getElem?_eq_some_iff.1 hj
    refine ⟨j, List.mem_filter.2 ⟨List.mem_range.2 hlt, (keeps_iff zs j).2 ?_⟩, by rw [getElem!_pos zs.toArray j (by simpa using hlt)]; simpa using he⟩
    rcases hor with h | h
    · exact .inl h
    · refine .inr fun e => h ?_
      rw [getElem!_pos zs.toArray j (by simpa using hlt), getElem!_pos zs.toArray (j - 1) (by simp; omega)] at e
      simp at e
      rw [List.getElem?_eq_getElem (by omega), ← e, he]
theorem pairwise_compact {zs : List Int} (h : zs.Pairwise (· ≤ ·)) : (Lib.compact zs).Pairwise (· < ·) := by
  unfold Lib.compact Lib.compactUpTo
  rw [List.pairwise_map]
  have h0 : ((List.range zs.length).filter (Lib.keeps zs.toArray)).Pairwise (· < ·) := List.Pairwise.sublist List.filter_sublist List.pairwise_lt_range
  refine h0.imp_of_mem fun {a b} ha hb hab => ?_
  obtain ⟨a1, _⟩ := List.mem_filter.1 ha
  obtain ⟨b1, b2⟩ := List.mem_filter.1 hb
  have a3 := List.mem_range.1 a1
  have b3 := List.mem_range.1 b1
  have hk := (keeps_iff zs b).1 b2
  rw [getElem!_pos zs.toArray b (by simpa using b3), getElem!_pos zs.toArray (b - 1) (by simp; omega)] at hk
  rw [getElem!_pos zs.toArray a (by simpa using a3), getElem!_pos zs.toArray b (by simpa using b3)]
  simp only [List.getElem_toArray] at hk ⊢
  have hle : ∀ i j (hi : i < zs.length) (hj : j < zs.length), i ≤ j → zs[i] ≤ zs[j] := fun i j hi hj hij => by
    rcases Nat.lt_or_ge i j with h1 | h1
    · exact List.pairwise_iff_getElem.1 h i j hi hj h1
    · obtain rfl : i = j := by omega
      exact Int.le_refl _
  have h1 := hle a (b - 1) a3 (by omega) (by omega)
  have h2 := hle (b - 1) b (by omega) b3 (by omega)
  rcases hk with h3 | h3
  · omega
  · omega
theorem SR_mem (zs : List Int) (x : Int) : x ∈ SR zs ↔ x ∈ zs := (mem_compact _ x).trans (mem_ms zs x)
theorem SR_lt (zs : List Int) : (SR zs).Pairwise (· < ·) := pairwise_compact (sorted_ms zs)
theorem SR_length (zs : List Int) : (SR zs).length ≤ zs.length := by
  have h := Lib.compact_length_le (zs.mergeSort fun x y => decide (x ≤ y))
  rw [List.length_mergeSort] at h
  exact h
/-- Lists that rise and have the same members are the same. -/
theorem rise_uniq : ∀ (l m : List Int), l.Pairwise (· < ·) → m.Pairwise (· < ·) → (∀ x, x ∈ l ↔ x ∈ m) → l = m
  | [], [], _, _, _ => rfl
  | [], b :: m, _, _, h => by have := (h b).2 (by simp); simp at this
  | a :: l, [], _, _, h => by have := (h a).1 (by simp); simp at this
  | a :: l, b :: m, h1, h2, h => by
    obtain ⟨a1, a2⟩ := List.pairwise_cons.1 h1
    obtain ⟨b1, b2⟩ := List.pairwise_cons.1 h2
    have hab : a = b := by
      have e1 : a ∈ b :: m := (h a).1 (by simp)
      have e2 : b ∈ a :: l := (h b).2 (by simp)
      rcases List.mem_cons.1 e1 with e | e
      · exact e
      · rcases List.mem_cons.1 e2 with e' | e'
        · exact e'.symm
        · have := b1 a e
          have := a1 b e'
          omega
    subst hab
    rw [rise_uniq l m a2 b2 fun x => ?_]
    constructor
    · intro hx
      rcases List.mem_cons.1 ((h x).1 (by simp [hx])) with e | e
      · have := a1 x hx
        omega
      · exact e
    · intro hx
      rcases List.mem_cons.1 ((h x).2 (by simp [hx])) with e | e
      · have := b1 x hx
        omega
      · exact e
/-- So many numbers from one on are there, and no more. -/
def RunOk (zs : List Int) (f : Int) (m : Nat) : Prop := (∀ j : Nat, j < m → f + j ∈ zs) ∧ f + m ∉ zs
theorem RunOk.uniq {zs : List Int} {f : Int} {m k : Nat} (h1 : RunOk zs f m) (h2 : RunOk zs f k) : m = k := by
  rcases Nat.lt_trichotomy m k with h | h | h
  · exact absurd (h2.1 m h) h1.2
  · exact h
  · exact absurd (h1.1 k h) h2.2
def runL (f : Int) (m : Nat) : List Int := (List.range m).map fun j : Nat => f + (j : Int)
theorem runL_length (f : Int) (m : Nat) : (runL f m).length = m := by simp [runL]
theorem runL_get {f : Int} {m j : Nat} (h : j < m) : (runL f m)[j]? = some (f + (j : Int)) := by simp [runL, h]
theorem runL_succ (f : Int) (m : Nat) : runL f (m + 1) = runL f m ++ [f + (m : Int)] := by simp [runL, List.range_succ]
/-- Where a number stands in a list that rises. -/
theorem count_at {S : List Int} (h : S.Pairwise (· < ·)) {x : Int} (hx : x ∈ S) : S[S.countP (· < x)]? = some x := by
  induction S with
  | nil => simp at hx
  | cons a l ih =>
    obtain ⟨a1, a2⟩ := List.pairwise_cons.1 h
    rcases List.mem_cons.1 hx with e | e
    · subst e
      have h0 : (x :: l).countP (· < x) = 0 := by
        rw [List.countP_eq_zero]
        intro b hb
        rcases List.mem_cons.1 hb with e | e
        · simp [e]
        · have := a1 b e
          simp
          omega
      rw [h0]
      rfl
    · have := a1 x e
      rw [List.countP_cons_of_pos (by simpa using this)]
      simpa using ih a2 e
theorem rise_at {S : List Int} (h : S.Pairwise (· < ·)) {i j : Nat} {a b : Int} (hi : S[i]? = some a) (hj : S[j]? = some b) (hij : i < j) : a < b := by
  obtain ⟨h1, rfl⟩ := List.getElem?_eq_some_iff.1 hi
  obtain ⟨h2, rfl⟩ := List.getElem?_eq_some_iff.1 hj
  exact List.pairwise_iff_getElem.1 h i j h1 h2 hij
/-- Behind a run in a list that rises there is a gap. -/
theorem run_stop {S : List Int} (h : S.Pairwise (· < ·)) {f : Int} {i k : Nat} (h1 : ∀ j, j < k + 1 → S[i + j]? = some (f + (j : Int))) (h2 : ∀ x, S[i + (k + 1)]? = some x → x ≠ f + ((k + 1 : Nat) : Int)) : RunOk S f (k + 1) := by
  refine ⟨fun j hj => List.mem_of_getElem? (h1 j hj), fun hm => ?_⟩
  obtain ⟨t, ht⟩ := List.getElem?_of_mem hm
  have hk := h1 k (by omega)
  rcases Nat.lt_trichotomy t (i + (k + 1)) with h3 | h3 | h3
  · rcases Nat.lt_or_ge t (i + k) with h4 | h4
    · have := rise_at h ht hk h4
      omega
    · obtain rfl : t = i + k := by omega
      rw [hk] at ht
      injection ht with ht
      omega
  · rw [h3] at ht
    exact h2 _ ht rfl
  · obtain ⟨y, hy⟩ : ∃ y, S[i + (k + 1)]? = some y := ⟨_, List.getElem?_eq_getElem (by have := (List.getElem?_eq_some_iff.1 ht).1; omega)⟩
    have a1 := rise_at h hk hy (by omega)
    have a2 := rise_at h hy ht h3
    omega
theorem RunOk.iff {zs S : List Int} (h : ∀ x, x ∈ S ↔ x ∈ zs) {f : Int} {m : Nat} (hr : RunOk S f m) : RunOk zs f m := ⟨fun j hj => (h _).1 (hr.1 j hj), fun e => hr.2 ((h _).2 e)⟩

end Wi
end Go.Proofs.YtnfakgdgjkgekaaDoor
