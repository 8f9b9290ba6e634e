/- Names in order, and a bucket as a plain machine; no program. -/
import Derived.Lib.Bytealg
namespace Go.Proofs.Ythnhapjjgaicdaa
namespace Wi

/-- How two names stand to each other. -/
def cmpB (a b : ByteArray) : Int := Lib.compareBytes a.data.toList b.data.toList
theorem cmpL_self : ∀ l : List UInt8, Lib.compareBytes l l = 0
  | [] => rfl
  | x :: r => by simp [Lib.compareBytes, UInt8.lt_irrefl, cmpL_self r]
theorem cmpL_cases : ∀ a b : List UInt8, Lib.compareBytes a b = -1 ∨ Lib.compareBytes a b = 0 ∨ Lib.compareBytes a b = 1
  | [], [] => by simp [Lib.compareBytes]
  | [], _ :: _ => by simp [Lib.compareBytes]
  | _ :: _, [] => by simp [Lib.compareBytes]
  | x :: r, y :: s => by
    unfold Lib.compareBytes
    split
    · simp
    · split
      · simp
      · exact cmpL_cases r s
theorem cmpL_zero : ∀ a b : List UInt8, Lib.compareBytes a b = 0 → a = b
  | [], [], _ => rfl
  | [], _ :: _, h => by simp [Lib.compareBytes] at h
  | _ :: _, [], h => by simp [Lib.compareBytes] at h
  | x :: r, y :: s, h => by
    unfold Lib.compareBytes at h
    split at h
    · simp at h
    · split at h
      · simp at h
      · rename_i h1 h2
        rw [cmpL_zero r s h, UInt8.le_antisymm (UInt8.not_lt.1 h2) (UInt8.not_lt.1 h1)]
theorem cmpL_anti : ∀ a b : List UInt8, Lib.compareBytes a b < 0 → 0 < Lib.compareBytes b a
  | [], [], h => by simp [Lib.compareBytes] at h
  | [], _ :: _, _ => by simp [Lib.compareBytes]
  | _ :: _, [], h => by simp [Lib.compareBytes] at h
  | x :: r, y :: s, h => by
    unfold Lib.compareBytes at h ⊢
    by_cases h1 : x < y
    · rw [if_neg (UInt8.lt_asymm h1), if_pos h1]; omega
    · rw [if_neg h1] at h
      by_cases h2 : y < x
      · rw [if_pos h2] at h; omega
      · rw [if_neg h2] at h
        rw [if_neg h2, if_neg h1]
        exact cmpL_anti r s h
theorem cmpL_trans : ∀ a b c : List UInt8, Lib.compareBytes a b < 0 → Lib.compareBytes b c < 0 → Lib.compareBytes a c < 0
  | [], [], _, h, _ => by simp [Lib.compareBytes] at h
  | [], _ :: _, [], _, h => by simp [Lib.compareBytes] at h
  | [], _ :: _, _ :: _, _, _ => by simp [Lib.compareBytes]
  | _ :: _, [], _, h, _ => by simp [Lib.compareBytes] at h
  | _ :: _, _ :: _, [], _, h => by simp [Lib.compareBytes] at h
  | x :: r, y :: s, z :: t, h, k => by
    unfold Lib.compareBytes at h k ⊢
    by_cases h1 : x < y
    · by_cases k1 : y < z
      · rw [if_pos (UInt8.lt_trans h1 k1)]; omega
      · rw [if_neg k1] at k
        by_cases k2 : z < y
        · rw [if_pos k2] at k; omega
        · rw [UInt8.le_antisymm (UInt8.not_lt.1 k2) (UInt8.not_lt.1 k1)] at h1
          rw [if_pos h1]; omega
    · rw [if_neg h1] at h
      by_cases h2 : y < x
      · rw [if_pos h2] at h; omega
      · rw [if_neg h2] at h
        obtain rfl := UInt8.le_antisymm (UInt8.not_lt.1 h2) (UInt8.not_lt.1 h1)
        by_cases k1 : x < z
        · rw [if_pos k1]; omega
        · rw [if_neg k1] at k ⊢
          by_cases k2 : z < x
          · rw [if_pos k2] at k; omega
          · rw [if_neg k2] at k ⊢
            exact cmpL_trans r s t h k
theorem key_inj {a b : ByteArray} (h : a.data.toList = b.data.toList) : a = b := by
  obtain ⟨⟨x⟩⟩ := a
  obtain ⟨⟨y⟩⟩ := b
  simp at h
  rw [h]
theorem cmpB_self (a : ByteArray) : cmpB a a = 0 := cmpL_self _
theorem cmpB_zero {a b : ByteArray} : cmpB a b = 0 ↔ a = b := ⟨fun h => key_inj (cmpL_zero _ _ h), fun h => by rw [h]; exact cmpB_self _⟩
theorem cmpB_anti {a b : ByteArray} (h : cmpB a b < 0) : 0 < cmpB b a := cmpL_anti _ _ h
theorem cmpB_trans {a b c : ByteArray} (h : cmpB a b < 0) (k : cmpB b c < 0) : cmpB a c < 0 := cmpL_trans _ _ _ h k
theorem cmpB_num (a b : ByteArray) : -1 ≤ cmpB a b ∧ cmpB a b ≤ 1 := by
  rcases cmpL_cases a.data.toList b.data.toList with h | h | h <;> (unfold cmpB; omega)
theorem cmpB_pos {a b : ByteArray} (h : 0 < cmpB a b) : cmpB b a < 0 := by
  rcases cmpL_cases b.data.toList a.data.toList with k | k | k
  · unfold cmpB; omega
  · have : b = a := key_inj (cmpL_zero _ _ k)
    rw [this, cmpB_self] at h
    omega
  · have h2 := cmpL_cases a.data.toList b.data.toList
    unfold cmpB at h ⊢
    exfalso
    have key : ∀ a b : List UInt8, 0 < Lib.compareBytes a b → Lib.compareBytes b a < 0 := by
      intro a
      induction a with
      | nil => intro b h; cases b <;> simp [Lib.compareBytes] at h
      | cons x r ih =>
        intro b h
        cases b with
        | nil => simp [Lib.compareBytes]
        | cons y s =>
          unfold Lib.compareBytes at h ⊢
          by_cases h1 : x < y
          · rw [if_pos h1] at h; omega
          · rw [if_neg h1] at h
            by_cases h2 : y < x
            · rw [if_pos h2]; omega
            · rw [if_neg h2] at h
              rw [if_neg h2, if_neg h1]
              exact ih s h
    have := key _ _ h
    omega
/-- Objects: a name and bytes. -/
abbrev Ob : Type := ByteArray × ByteArray
def Rise (l : List Ob) : Prop := l.Pairwise fun x y => cmpB x.1 y.1 < 0
/-- How many names stand ahead of one. -/
def place (l : List Ob) (s : ByteArray) : Nat := (l.takeWhile fun o => decide (cmpB o.1 s < 0)).length
theorem place_le (l : List Ob) (s : ByteArray) : place l s ≤ l.length := (List.takeWhile_sublist _).length_le
/-- The place is where the names ahead end. -/
theorem place_eq : ∀ (l : List Ob) (s : ByteArray) (i : Nat), i ≤ l.length → (∀ k o, k < i → l[k]? = some o → cmpB o.1 s < 0) → (∀ o, l[i]? = some o → ¬ cmpB o.1 s < 0) → place l s = i
  | [], _, i, h, _, _ => by simp at h; simp [place, h]
  | x :: r, s, 0, _, _, h => by
    have := h x rfl
    simp [place, this]
  | x :: r, s, i + 1, hl, h1, h2 => by
    have hx := h1 0 x (by omega) rfl
    have ih := place_eq r s i (by simpa using hl) (fun k o hk ho => h1 (k + 1) o (by omega) (by simpa using ho)) (fun o ho => h2 o (by simpa using ho))
    simp only [place, List.takeWhile_cons, hx, decide_true, if_true, List.length_cons] at ih ⊢
    omega
theorem place_ahead (l : List Ob) (s : ByteArray) : ∀ k o, k < place l s → l[k]? = some o → cmpB o.1 s < 0 := by
  induction l with
  | nil => intro k o _ h; simp at h
  | cons x r ih =>
    intro k o hk h
    by_cases hx : cmpB x.1 s < 0
    · have e : place (x :: r) s = place r s + 1 := by simp [place, hx]
      cases k with
      | zero => simp at h; rw [← h]; exact hx
      | succ k => exact ih k o (by omega) (by simpa using h)
    · have e : place (x :: r) s = 0 := by simp [place, hx]
      omega
theorem place_at (l : List Ob) (s : ByteArray) : ∀ o, l[place l s]? = some o → ¬ cmpB o.1 s < 0 := by
  induction l with
  | nil => intro o h; simp at h
  | cons x r ih =>
    intro o h
    by_cases hx : cmpB x.1 s < 0
    · have e : place (x :: r) s = place r s + 1 := by simp [place, hx]
      rw [e] at h
      exact ih o (by simpa using h)
    · have e : place (x :: r) s = 0 := by simp [place, hx]
      rw [e] at h
      simp at h
      rw [← h]
      exact hx
theorem Rise.at {l : List Ob} (h : Rise l) {i k : Nat} {a b : Ob} (hi : l[i]? = some a) (hk : l[k]? = some b) (hlt : i < k) : cmpB a.1 b.1 < 0 := by
  obtain ⟨h1, rfl⟩ := List.getElem?_eq_some_iff.1 hi
  obtain ⟨h2, rfl⟩ := List.getElem?_eq_some_iff.1 hk
  exact List.pairwise_iff_getElem.1 h i k h1 h2 hlt
/-- The object of a name. -/
def got (l : List Ob) (s : ByteArray) : Option ByteArray := (l.find? fun o => decide (o.1 = s)).map (·.2)
theorem got_some {l : List Ob} (_h : Rise l) {s : ByteArray} {o : Ob} (ho : l[place l s]? = some o) (e : o.1 = s) : got l s = some o.2 := by
  have hm := List.mem_of_getElem? ho
  unfold got
  have : l.find? (fun o => decide (o.1 = s)) = some o := by
    rw [List.find?_eq_some_iff_getElem]
    refine ⟨by simp [e], place l s, (List.getElem?_eq_some_iff.1 ho).1, (List.getElem?_eq_some_iff.1 ho).2, fun j hj => ?_⟩
    have := place_ahead l s j _ hj (List.getElem?_eq_getElem (by have := place_le l s; omega))
    simp only [Bool.not_eq_eq_eq_not, Bool.not_true, decide_eq_false_iff_not]
    intro e2
    rw [e2, cmpB_self] at this
    omega
  rw [this]
  rfl
theorem got_none {l : List Ob} (h : Rise l) {s : ByteArray} (hn : ∀ o, l[place l s]? = some o → o.1 ≠ s) : got l s = none := by
  unfold got
  rw [Option.map_eq_none_iff, List.find?_eq_none]
  intro o ho
  simp only [decide_eq_true_eq]
  intro e
  obtain ⟨k, hk⟩ := List.getElem?_of_mem ho
  rcases Nat.lt_trichotomy k (place l s) with h1 | h1 | h1
  · have := place_ahead l s k o h1 hk
    rw [e, cmpB_self] at this
    omega
  · rw [h1] at hk
    exact hn o hk e
  · obtain ⟨p, hp⟩ : ∃ p, l[place l s]? = some p := ⟨_, List.getElem?_eq_getElem (by have := (List.getElem?_eq_some_iff.1 hk).1; omega)⟩
    have h2 := h.at hp hk h1
    have h3 := place_at l s p hp
    rw [e] at h2
    exact h3 h2

end Wi
end Go.Proofs.Ythnhapjjgaicdaa
