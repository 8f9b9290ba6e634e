/- Go's stable sort sorts, and keeps the order of those that are the same: plain lists. -/
import Derived.Test.YtgdfmoehbgmfkaaVz
namespace Go.Proofs.Ytgdfmoehbgmfkaa
open Go.RowKit
namespace Li
open Wi
/-- Which of two comes first: the lesser part, or, of the same, as they stand. -/
structure Ord (S : Vr → Vr → Prop) : Prop where
  tr : ∀ x y z, S x y → S y z → S x z
  ir : ∀ x, ¬ S x x
  lt : ∀ x y, ltV x y = true → S x y
/-- Two that stand so: if the second is not less, then it comes behind. -/
def Tie (S : Vr → Vr → Prop) (x y : Vr) : Prop := ltV y x = false → S x y
def Srt (S : Vr → Vr → Prop) (d : List Vr) (a b : Nat) : Prop := ∀ i j, a ≤ i → i < j → j < b → S d[i]! d[j]!
/-- The places from a to b have changed places with each other. -/
structure Mix (d d' : List Vr) (a b : Nat) : Prop where
  len : d'.length = d.length
  out : ∀ k, k < a ∨ b ≤ k → d'[k]! = d[k]!
  inn : ∀ k, a ≤ k → k < b → ∃ k', a ≤ k' ∧ k' < b ∧ d'[k]! = d[k']!
  perm : d'.Perm d
theorem Mix.refl (d : List Vr) (a b : Nat) : Mix d d a b := ⟨rfl, fun _ _ => rfl, fun k h1 h2 => ⟨k, h1, h2, rfl⟩, List.Perm.refl _⟩
theorem Mix.trans {d d' d'' : List Vr} {a b : Nat} (h : Mix d d' a b) (h' : Mix d' d'' a b) : Mix d d'' a b :=
  ⟨h'.len.trans h.len, fun k hk => (h'.out k hk).trans (h.out k hk), fun k h1 h2 => by
    obtain ⟨k', h3, h4, h5⟩ := h'.inn k h1 h2
    obtain ⟨k2, h6, h7, h8⟩ := h.inn k' h3 h4
    exact ⟨k2, h6, h7, h5.trans h8⟩, h'.perm.trans h.perm⟩
theorem Mix.mono {d d' : List Vr} {a b a' b' : Nat} (h : Mix d d' a b) (ha : a' ≤ a) (hb : b ≤ b') : Mix d d' a' b' :=
  ⟨h.len, fun k hk => h.out k (by omega), fun k h1 h2 => by
    by_cases hk : k < a ∨ b ≤ k
    · exact ⟨k, h1, h2, h.out k hk⟩
    · obtain ⟨k', h3, h4, h5⟩ := h.inn k (by omega) (by omega)
      exact ⟨k', by omega, by omega, h5⟩, h.perm⟩
theorem gi {d : List Vr} {i j : Nat} (h : i = j) : d[i]! = d[j]! := by rw [h]
theorem set_get! (d : List Vr) (i k : Nat) (x : Vr) (hi : i < d.length) : (d.set i x)[k]! = if k = i then x else d[k]! := by
  by_cases h : k = i
  · subst h; rw [if_pos rfl, getElem!_pos (d.set k x) k (by simpa using hi), List.getElem_set_self]
  · rw [if_neg h]
    by_cases hk : k < d.length
    · rw [getElem!_pos (d.set i x) k (by simpa using hk), getElem!_pos d k hk, List.getElem_set_ne (fun e => h e.symm)]
    · rw [getElem!_neg (d.set i x) k (by simpa using hk), getElem!_neg d k hk]
theorem swapL_get (d : List Vr) {i j : Nat} (hi : i < d.length) (hj : j < d.length) (k : Nat) : (swapL d i j)[k]! = if k = j then d[i]! else if k = i then d[j]! else d[k]! := by
  unfold swapL
  rw [set_get! _ _ _ _ (by simpa using hj), set_get! _ _ _ _ hi]
theorem swapL_mix (d : List Vr) {a b i j : Nat} (hi : a ≤ i) (hi2 : i < b) (hj : a ≤ j) (hj2 : j < b) (hb : b ≤ d.length) : Mix d (swapL d i j) a b := by
  refine ⟨swapL_len d i j, fun k hk => ?_, fun k h1 h2 => ?_, ?_⟩
  · rw [swapL_get d (by omega) (by omega), if_neg (by omega), if_neg (by omega)]
  · rw [swapL_get d (by omega) (by omega)]
    split
    · exact ⟨i, hi, hi2, rfl⟩
    · split
      · exact ⟨j, hj, hj2, rfl⟩
      · exact ⟨k, h1, h2, rfl⟩
  · unfold swapL
    rw [getElem!_pos d j (by omega), getElem!_pos d i (by omega)]
    exact List.set_set_perm _ _
theorem swapRangeL_mix {d : List Vr} {a b a' b' : Nat} (hb : b' ≤ d.length) (ha : a' ≤ a) (ha2 : a' ≤ b) : ∀ n, a + n ≤ b' → b + n ≤ b' → Mix d (swapRangeL d a b n) a' b'
  | 0, _, _ => Mix.refl ..
  | n + 1, h1, h2 => (swapRangeL_mix hb ha ha2 n (by omega) (by omega)).trans (swapL_mix _ (by omega) (by omega) (by omega) (by omega) (by rw [swapRangeL_len]; exact hb))
theorem swapRangeL_get {d : List Vr} {a b : Nat} : ∀ n, a + n ≤ b → b + n ≤ d.length → ∀ k, (swapRangeL d a b n)[k]! = if a ≤ k ∧ k < a + n then d[k - a + b]! else if b ≤ k ∧ k < b + n then d[k - b + a]! else d[k]!
  | 0, _, _, k => by rw [if_neg (by omega), if_neg (by omega)]; rfl
  | n + 1, h1, h2, k => by
    have ih := swapRangeL_get (d := d) (a := a) (b := b) n (by omega) (by omega)
    rw [swapRangeL, swapL_get _ (by rw [swapRangeL_len]; omega) (by rw [swapRangeL_len]; omega), ih, ih, ih]
    repeat' split
    all_goals first | exact gi (by omega) | (exfalso; omega)
theorem rotL_get (m : Nat) : ∀ (s i j : Nat) (d : List Vr), i + j = s → i ≤ m → m + j ≤ d.length → 0 < i → 0 < j →
    ∀ k, (rotL d m i j)[k]! = if m - i ≤ k ∧ k < m - i + j then d[k + i]! else if m - i + j ≤ k ∧ k < m + j then d[k - j]! else d[k]! := by
  intro s
  induction s using Nat.strongRecOn with
  | _ s ih =>
    intro i j d hs hi hj hi0 hj0 k
    rcases Nat.lt_trichotomy i j with h | h | h
    · rw [rotL_lt h hi0, ih (i + (j - i)) (by omega) i (j - i) _ rfl hi (by rw [swapRangeL_len]; omega) hi0 (by omega), swapRangeL_get _ (by omega) (by omega), swapRangeL_get _ (by omega) (by omega), swapRangeL_get _ (by omega) (by omega)]
      repeat' split
      all_goals first | exact gi (by omega) | (exfalso; omega)
    · subst h
      rw [rotL_eq, swapRangeL_get _ (by omega) (by omega)]
      repeat' split
      all_goals first | exact gi (by omega) | (exfalso; omega)
    · rw [rotL_gt h hj0, ih (i - j + j) (by omega) (i - j) j _ rfl (by omega) (by rw [swapRangeL_len]; omega) (by omega) hj0, swapRangeL_get _ (by omega) (by omega), swapRangeL_get _ (by omega) (by omega), swapRangeL_get _ (by omega) (by omega)]
      repeat' split
      all_goals first | exact gi (by omega) | (exfalso; omega)
theorem rotL_mix (m : Nat) : ∀ (s i j : Nat) (d : List Vr) (a b : Nat), i + j = s → i ≤ m → a ≤ m - i → m + j ≤ b → b ≤ d.length → 0 < i → 0 < j → Mix d (rotL d m i j) a b := by
  intro s
  induction s using Nat.strongRecOn with
  | _ s ih =>
    intro i j d a b hs hi ha hj hb hi0 hj0
    rcases Nat.lt_trichotomy i j with h | h | h
    · rw [rotL_lt h hi0]
      exact (swapRangeL_mix hb (by omega) (by omega) _ (by omega) (by omega)).trans (ih (i + (j - i)) (by omega) i (j - i) _ a b rfl hi ha (by omega) (by rw [swapRangeL_len]; exact hb) hi0 (by omega))
    · subst h
      rw [rotL_eq]
      exact swapRangeL_mix hb (by omega) (by omega) _ (by omega) (by omega)
    · rw [rotL_gt h hj0]
      exact (swapRangeL_mix hb (by omega) (by omega) _ (by omega) (by omega)).trans (ih (i - j + j) (by omega) (i - j) j _ a b rfl (by omega) (by omega) hj (by rw [swapRangeL_len]; exact hb) (by omega) hj0)
theorem upL_mix {d : List Vr} {a b a' : Nat} (hb : b ≤ d.length) (ha : a' ≤ a) : ∀ n, a + n < b → Mix d (upL d a n) a' b
  | 0, _ => Mix.refl ..
  | n + 1, h => (upL_mix hb ha n (by omega)).trans (swapL_mix _ (by omega) (by omega) (by omega) (by omega) (by rw [upL_len]; exact hb))
theorem upL_get {d : List Vr} {a : Nat} : ∀ n, a + n < d.length → ∀ k, (upL d a n)[k]! = if a ≤ k ∧ k < a + n then d[k + 1]! else if k = a + n then d[a]! else d[k]!
  | 0, _, k => by
    rw [if_neg (by omega)]
    split
    · next h => exact gi (by omega)
    · rfl
  | n + 1, h, k => by
    have ih := upL_get (d := d) (a := a) n (by omega)
    rw [upL, swapL_get _ (by rw [upL_len]; omega) (by rw [upL_len]; omega), ih, ih, ih]
    repeat' split
    all_goals first | exact gi (by omega) | (exfalso; omega)
theorem downL_mix {d : List Vr} {a b m : Nat} (hb : b ≤ d.length) (hm : m < b) : ∀ n, n ≤ m → a ≤ m - n → Mix d (downL d m n) a b
  | 0, _, _ => Mix.refl ..
  | n + 1, h, h2 => (downL_mix hb hm n (by omega) (by omega)).trans (swapL_mix _ (by omega) (by omega) (by omega) (by omega) (by rw [downL_len]; exact hb))
theorem downL_get {d : List Vr} {m : Nat} (hm : m < d.length) : ∀ n, n ≤ m → ∀ k, (downL d m n)[k]! = if k = m - n then d[m]! else if m - n < k ∧ k ≤ m then d[k - 1]! else d[k]!
  | 0, _, k => by
    split
    · exact gi (by omega)
    · rw [if_neg (by omega)]; rfl
  | n + 1, h, k => by
    have ih := downL_get hm n (by omega)
    rw [downL, swapL_get _ (by rw [downL_len]; omega) (by rw [downL_len]; omega), ih, ih, ih]
    repeat' split
    all_goals first | exact gi (by omega) | (exfalso; omega)
theorem bsL_tells {p : Nat → Bool} : ∀ (s i j : Nat), j - i = s → i ≤ j → (∀ k k', i ≤ k → k < k' → k' < j → p k' = true → p k = true) →
    (∀ k, i ≤ k → k < bsL p i j → p k = true) ∧ (∀ k, bsL p i j ≤ k → k < j → p k = false) := by
  intro s
  induction s using Nat.strongRecOn with
  | _ s ih =>
    intro i j hs hij hm
    by_cases h : i < j
    · cases hp : p ((i + j) / 2) with
      | true =>
        rw [bsL_yes h hp]
        obtain ⟨h1, h2⟩ := ih (j - ((i + j) / 2 + 1)) (by omega) ((i + j) / 2 + 1) j rfl (by omega) (fun k k' a b c d => hm k k' (by omega) b c d)
        refine ⟨fun k hk hk2 => ?_, h2⟩
        rcases Nat.lt_trichotomy k ((i + j) / 2) with e | e | e
        · exact hm k _ hk e (by omega) hp
        · rw [e]; exact hp
        · exact h1 k (by omega) hk2
      | false =>
        rw [bsL_no h hp]
        obtain ⟨h1, h2⟩ := ih ((i + j) / 2 - i) (by omega) i ((i + j) / 2) rfl (by omega) (fun k k' a b c d => hm k k' a b (by omega) d)
        refine ⟨h1, fun k hk hk2 => ?_⟩
        rcases Nat.lt_trichotomy k ((i + j) / 2) with e | e | e
        · exact h2 k hk e
        · rw [e]; exact hp
        · cases hq : p k with
          | false => rfl
          | true => rw [hm _ k (by omega) e hk2 hq] at hp; cases hp
    · rw [bsL_end h]
      exact ⟨fun k a b => by omega, fun k a b => by omega⟩
theorem sy1_get {d : List Vr} {m s E : Nat} (hs : s ≤ m) (hE : m ≤ E) (hd : E ≤ d.length) (k : Nat) : (sy1 d m s E)[k]! = if s ≤ k ∧ k < s + (E - m) then d[k + (m - s)]! else if s + (E - m) ≤ k ∧ k < E then d[k - (E - m)]! else d[k]! := by
  unfold sy1
  split
  · next h =>
    rw [rotL_get m _ _ _ d rfl (by omega) (by omega) (by omega) (by omega)]
    repeat' split
    all_goals first | exact gi (by omega) | (exfalso; omega)
  · repeat' split
    all_goals first | exact gi (by omega) | (exfalso; omega)
theorem sy1_mix {d : List Vr} {a m b s E : Nat} (hs : a ≤ s) (hE : E ≤ b) (hd : b ≤ d.length) : Mix d (sy1 d m s E) a b := by
  unfold sy1
  split
  · exact rotL_mix m _ _ _ d a b rfl (by omega) (by omega) (by omega) hd (by omega) (by omega)
  · exact Mix.refl ..
theorem Srt.le {S : Vr → Vr → Prop} (hO : Ord S) {d : List Vr} {a b i j : Nat} (h : Srt S d a b) (hi : a ≤ i) (hij : i ≤ j) (hj : j < b) {z : Vr} (hz : S d[j]! z) : S d[i]! z := by
  by_cases e : i = j
  · rw [e]; exact hz
  · exact hO.tr _ _ _ (h i j hi (by omega) hj) hz
theorem Srt.ge {S : Vr → Vr → Prop} (hO : Ord S) {d : List Vr} {a b i j : Nat} (h : Srt S d a b) (hi : a ≤ i) (hij : i ≤ j) (hj : j < b) {z : Vr} (hz : S z d[i]!) : S z d[j]! := by
  by_cases e : i = j
  · rw [← e]; exact hz
  · exact hO.tr _ _ _ hz (h i j hi (by omega) hj)
theorem Ord.no {S : Vr → Vr → Prop} (hO : Ord S) {x y : Vr} (h : S x y) : ltV y x = false := by
  cases hq : ltV y x with
  | false => rfl
  | true => exact absurd (hO.tr _ _ _ h (hO.lt _ _ hq)) (hO.ir _)
theorem sym_sorts {S : Vr → Vr → Prop} (hO : Ord S) (N : Nat) : ∀ (f a m b : Nat) (d : List Vr), d.length = N → b - a ≤ f → a < m → m < b → b ≤ N → Srt S d a m → Srt S d m b →
    (∀ i j, a ≤ i → i < m → m ≤ j → j < b → Tie S d[i]! d[j]!) → Mix d (symL f d a m b) a b ∧ Srt S (symL f d a m b) a b := by
  intro f
  induction f with
  | zero => intro a m b d hd hf ham hmb; omega
  | succ f ih =>
    intro a m b d hd hf ham hmb hbN hL hR hT
    by_cases h1 : m - a = 1
    · rw [symL_one h1]
      have hin := bsL_in (fun h => ltV d[h]! d[a]!) _ m b rfl (by omega)
      have hte := bsL_tells (p := fun h => ltV d[h]! d[a]!) _ m b rfl (by omega) (fun k k' h2 h3 h4 h5 => by
        have h5 : ltV d[k']! d[a]! = true := h5
        cases hq : ltV d[k]! d[a]! with
        | true => rfl
        | false => exact absurd (hO.tr _ _ _ (hT a k (Nat.le_refl _) (by omega) h2 (by omega) hq) (hO.tr _ _ _ (hR k k' h2 h3 h4) (hO.lt _ _ h5))) (hO.ir _))
      generalize bsL (fun h => ltV d[h]! d[a]!) m b = i at *
      have hyes : ∀ k, m ≤ k → k < i → S d[k]! d[a]! := fun k h2 h3 => hO.lt _ _ (hte.1 k h2 h3)
      have hno : ∀ k, i ≤ k → k < b → S d[a]! d[k]! := fun k h2 h3 => hT a k (Nat.le_refl _) (by omega) (by omega) h3 (hte.2 k h2 h3)
      refine ⟨upL_mix (by omega) (Nat.le_refl _) _ (by omega), fun p q hp hpq hq => ?_⟩
      rw [upL_get _ (by omega), upL_get _ (by omega)]
      by_cases c1 : p < a + (i - 1 - a)
      · rw [if_pos ⟨hp, c1⟩]
        by_cases c2 : q < a + (i - 1 - a)
        · rw [if_pos ⟨by omega, c2⟩]; exact hR _ _ (by omega) (by omega) (by omega)
        · rw [if_neg (by omega)]
          by_cases c3 : q = a + (i - 1 - a)
          · rw [if_pos c3]; exact hyes _ (by omega) (by omega)
          · rw [if_neg c3]; exact hR _ _ (by omega) (by omega) (by omega)
      · rw [if_neg (by omega)]
        by_cases c2 : p = a + (i - 1 - a)
        · rw [if_pos c2, if_neg (by omega), if_neg (by omega)]
          exact hno _ (by omega) (by omega)
        · rw [if_neg c2, if_neg (by omega), if_neg (by omega)]
          exact hR _ _ (by omega) (by omega) (by omega)
    · by_cases h2 : b - m = 1
      · rw [symL_two h1 h2]
        have hin := bsL_in (fun h => !ltV d[m]! d[h]!) _ a m rfl (by omega)
        have hte := bsL_tells (p := fun h => !ltV d[m]! d[h]!) _ a m rfl (by omega) (fun k k' h3 h4 h5 h6 => by
          have h6 : (!ltV d[m]! d[k']!) = true := h6
          have h7 : ltV d[m]! d[k']! = false := by simpa using h6
          have h8 := hO.tr _ _ _ (hL k k' h3 h4 h5) (hT k' m (by omega) h5 (Nat.le_refl _) hmb h7)
          show (!ltV d[m]! d[k]!) = true
          rw [hO.no h8]; rfl)
        generalize bsL (fun h => !ltV d[m]! d[h]!) a m = i at *
        have hyes : ∀ k, a ≤ k → k < i → S d[k]! d[m]! := fun k h3 h4 => hT k m h3 (by omega) (Nat.le_refl _) hmb (by have := hte.1 k h3 h4; simpa using this)
        have hno : ∀ k, i ≤ k → k < m → S d[m]! d[k]! := fun k h3 h4 => hO.lt _ _ (by have := hte.2 k h3 h4; simpa using this)
        refine ⟨downL_mix (by omega) hmb _ (by omega) (by omega), fun p q hp hpq hq => ?_⟩
        rw [downL_get (by omega) _ (by omega), downL_get (by omega) _ (by omega)]
        by_cases c1 : p = m - (m - i)
        · rw [if_pos c1, if_neg (by omega), if_pos (by omega)]
          exact hno _ (by omega) (by omega)
        · rw [if_neg c1]
          by_cases c2 : m - (m - i) < p
          · rw [if_pos (by omega), if_neg (by omega), if_pos (by omega)]
            exact hL _ _ (by omega) (by omega) (by omega)
          · rw [if_neg (by omega)]
            by_cases c3 : q = m - (m - i)
            · rw [if_pos c3]; exact hyes _ hp (by omega)
            · rw [if_neg c3]
              by_cases c4 : m - (m - i) < q
              · rw [if_pos (by omega)]; exact hL _ _ hp (by omega) (by omega)
              · rw [if_neg (by omega)]; exact hL _ _ hp (by omega) (by omega)
      · obtain ⟨mid, hmid⟩ : ∃ x, x = (a + b) / 2 := ⟨_, rfl⟩
        obtain ⟨n, hn⟩ : ∃ x, x = mid + m := ⟨_, rfl⟩
        obtain ⟨s0, hs0⟩ : ∃ x, x = if mid < m then n - b else a := ⟨_, rfl⟩
        obtain ⟨r0, hr0⟩ : ∃ x, x = if mid < m then mid else m := ⟨_, rfl⟩
        obtain ⟨s, hs⟩ : ∃ x, x = bsL (fun c => !ltV d[n - 1 - c]! d[c]!) s0 r0 := ⟨_, rfl⟩
        obtain ⟨E, hE⟩ : ∃ x, x = n - s := ⟨_, rfl⟩
        rw [symL_rest h1 h2 hmid hn hs0 hr0 hs hE]
        have hsr : (mid < m ∧ s0 = n - b ∧ r0 = mid) ∨ (m ≤ mid ∧ s0 = a ∧ r0 = m) := by
          by_cases c : mid < m
          · rw [if_pos c] at hs0 hr0; exact .inl ⟨c, hs0, hr0⟩
          · rw [if_neg c] at hs0 hr0; exact .inr ⟨by omega, hs0, hr0⟩
        clear hs0 hr0
        have hin := bsL_in (fun c => !ltV d[n - 1 - c]! d[c]!) _ s0 r0 rfl (by omega)
        have hte := bsL_tells (p := fun c => !ltV d[n - 1 - c]! d[c]!) _ s0 r0 rfl (by omega) (fun k k' h3 h4 h5 h6 => by
          have h6 : (!ltV d[n - 1 - k']! d[k']!) = true := h6
          have h7 : ltV d[n - 1 - k']! d[k']! = false := by simpa using h6
          have h8 := hT k' (n - 1 - k') (by omega) (by omega) (by omega) (by omega) h7
          have h9 := hO.tr _ _ _ (hO.tr _ _ _ (hL k k' (by omega) h4 (by omega)) h8) (hR (n - 1 - k') (n - 1 - k) (by omega) (by omega) (by omega))
          show (!ltV d[n - 1 - k]! d[k]!) = true
          rw [hO.no h9]; rfl)
        rw [← hs] at hin hte
        clear hs
        have hyes : ∀ k, s0 ≤ k → k < s → S d[k]! d[n - 1 - k]! := fun k h3 h4 => hT k _ (by omega) (by omega) (by omega) (by omega) (by have := hte.1 k h3 h4; simpa using this)
        have hno : ∀ k, s ≤ k → k < r0 → S d[n - 1 - k]! d[k]! := fun k h3 h4 => hO.lt _ _ (by have := hte.2 k h3 h4; simpa using this)
        clear hte
        have hsm : a ≤ s ∧ s ≤ m ∧ s ≤ mid ∧ m ≤ E ∧ mid ≤ E ∧ E ≤ b ∧ s + (E - m) = mid := by omega
        obtain ⟨k1, k2, k3, k4, k5, k6, k7⟩ := hsm
        have hget := sy1_get (d := d) k2 k4 (by omega)
        have hmix := sy1_mix (d := d) (m := m) k1 k6 (by omega)
        rw [k7] at hget
        generalize sy1 d m s E = d1 at *
        have g1 : ∀ k, k < s → d1[k]! = d[k]! := fun k h => by rw [hget, if_neg (by omega), if_neg (by omega)]
        have g2 : ∀ k, s ≤ k → k < mid → d1[k]! = d[k + (m - s)]! := fun k h h' => by rw [hget, if_pos ⟨h, h'⟩]
        have g3 : ∀ k, mid ≤ k → k < E → d1[k]! = d[k - (E - m)]! := fun k h h' => by rw [hget, if_neg (by omega), if_pos ⟨h, h'⟩]
        have g4 : ∀ k, E ≤ k → d1[k]! = d[k]! := fun k h => by rw [hget, if_neg (by omega), if_neg (by omega)]
        clear hget
        have hcross : ∀ i j, a ≤ i → i < mid → mid ≤ j → j < b → S d1[i]! d1[j]! := by
          intro i j hi hi2 hj hj2
          by_cases c1 : i < s
          · rw [g1 i c1]
            by_cases c2 : j < E
            · rw [g3 j hj c2]; exact hL _ _ hi (by omega) (by omega)
            · rw [g4 j (by omega)]
              have hy := hyes (s - 1) (by omega) (by omega)
              exact hL.le hO hi (j := s - 1) (by omega) (by omega) (hR.ge hO (i := n - 1 - (s - 1)) (by omega) (by omega) hj2 hy)
          · rw [g2 i (by omega) hi2]
            by_cases c2 : j < E
            · rw [g3 j hj c2]
              have hy := hno s (Nat.le_refl _) (by omega)
              exact hR.le hO (j := n - 1 - s) (by omega) (by omega) (by omega) (hL.ge hO (i := s) k1 (by omega) (by omega) hy)
            · rw [g4 j (by omega)]; exact hR _ _ (by omega) (by omega) hj2
        have q1 : Srt S d1 a s := fun i j hi hij hj => by rw [g1 i (by omega), g1 j hj]; exact hL _ _ hi hij (by omega)
        have q2 : Srt S d1 s mid := fun i j hi hij hj => by rw [g2 i hi (by omega), g2 j (by omega) hj]; exact hR _ _ (by omega) (by omega) (by omega)
        have q3 : Srt S d1 mid E := fun i j hi hij hj => by rw [g3 i hi (by omega), g3 j (by omega) hj]; exact hL _ _ (by omega) (by omega) (by omega)
        have q4 : Srt S d1 E b := fun i j hi hij hj => by rw [g4 i hi, g4 j (by omega)]; exact hR _ _ (by omega) (by omega) hj
        have t1 : ∀ i j, a ≤ i → i < s → s ≤ j → j < mid → Tie S d1[i]! d1[j]! := fun i j hi hi2 hj hj2 => by rw [g1 i hi2, g2 j hj hj2]; exact hT _ _ hi (by omega) (by omega) (by omega)
        have t2 : ∀ i j, mid ≤ i → i < E → E ≤ j → j < b → Tie S d1[i]! d1[j]! := fun i j hi hi2 hj hj2 => by rw [g3 i hi hi2, g4 j hj]; exact hT _ _ (by omega) (by omega) (by omega) hj2
        have hd1 : d1.length = N := hmix.len.trans hd
        have hleft : Mix d1 (sy2 f d1 a s mid) a mid ∧ Srt S (sy2 f d1 a s mid) a mid := by
          unfold sy2
          by_cases c : a < s ∧ s < mid
          · rw [if_pos c]
            exact ih a s mid d1 hd1 (by omega) c.1 c.2 (by omega) q1 q2 t1
          · rw [if_neg c]
            refine ⟨Mix.refl .., ?_⟩
            by_cases c2 : a = s
            · rw [c2]; exact q2
            · have : s = mid := by omega
              rw [← this]; exact q1
        generalize sy2 f d1 a s mid = d2 at *
        have hd2 : d2.length = N := hleft.1.len.trans hd1
        have e2 : ∀ k, mid ≤ k → d2[k]! = d1[k]! := fun k h => hleft.1.out k (.inr h)
        have hright : Mix d2 (sy3 f d2 mid E b) mid b ∧ Srt S (sy3 f d2 mid E b) mid b := by
          have q3' : Srt S d2 mid E := fun i j hi hij hj => by rw [e2 i hi, e2 j (by omega)]; exact q3 i j hi hij hj
          have q4' : Srt S d2 E b := fun i j hi hij hj => by rw [e2 i (by omega), e2 j (by omega)]; exact q4 i j hi hij hj
          unfold sy3
          by_cases c : mid < E ∧ E < b
          · rw [if_pos c]
            exact ih mid E b d2 hd2 (by omega) c.1 c.2 hbN q3' q4' (fun i j hi hi2 hj hj2 => by rw [e2 i hi, e2 j (by omega)]; exact t2 i j hi hi2 hj hj2)
          · rw [if_neg c]
            refine ⟨Mix.refl .., ?_⟩
            by_cases c2 : mid = E
            · rw [c2]; exact q4'
            · have : E = b := by omega
              rw [← this]; exact q3'
        generalize sy3 f d2 mid E b = d3 at *
        refine ⟨(hmix.trans (hleft.1.mono (Nat.le_refl _) (by omega))).trans (hright.1.mono (by omega) (Nat.le_refl _)), fun i j hi hij hj => ?_⟩
        by_cases c1 : mid ≤ i
        · exact hright.2 i j c1 hij hj
        · rw [hright.1.out i (.inl (by omega))]
          by_cases c2 : j < mid
          · rw [hright.1.out j (.inl c2)]; exact hleft.2 i j hi hij c2
          · obtain ⟨j', h3, h4, h5⟩ := hright.1.inn j (by omega) hj
            obtain ⟨i', h6, h7, h8⟩ := hleft.1.inn i hi (by omega)
            rw [h5, h8, e2 j' h3]
            exact hcross i' j' h6 h7 h3 h4
/-- Each one behind another one stands so. -/
def Tied (S : Vr → Vr → Prop) (d : List Vr) : Prop := ∀ i j, i < j → j < d.length → Tie S d[i]! d[j]!
theorem Tied.mix {S : Vr → Vr → Prop} {d d' : List Vr} {a b : Nat} (h : Tied S d) (hm : Mix d d' a b) (hs : Srt S d' a b) (hb : b ≤ d.length) : Tied S d' := by
  intro i j hij hj
  rw [hm.len] at hj
  by_cases ci : i < a ∨ b ≤ i
  · rw [hm.out i ci]
    by_cases cj : j < a ∨ b ≤ j
    · rw [hm.out j cj]; exact h i j hij hj
    · obtain ⟨j', h1, h2, h3⟩ := hm.inn j (by omega) (by omega)
      rw [h3]; exact h i j' (by omega) (by omega)
  · by_cases cj : j < a ∨ b ≤ j
    · obtain ⟨i', h1, h2, h3⟩ := hm.inn i (by omega) (by omega)
      rw [hm.out j cj, h3]; exact h i' j (by omega) hj
    · exact fun _ => hs i j (by omega) hij (by omega)
/-- From a on, stretches of so many are sorted. -/
def Runs (S : Vr → Vr → Prop) (d : List Vr) (s a n : Nat) : Prop := ∀ q c, c = a + s * q → Srt S d c (min (c + s) n)
/-- Up to a, stretches of so many are. -/
def Done (S : Vr → Vr → Prop) (d : List Vr) (s a : Nat) : Prop := ∀ q c, c = s * q → c + s ≤ a → Srt S d c (c + s)
theorem Srt.same {S : Vr → Vr → Prop} {d d' : List Vr} {a b : Nat} (h : Srt S d a b) (he : ∀ k, a ≤ k → k < b → d'[k]! = d[k]!) : Srt S d' a b := fun i j hi hij hj => by
  rw [he i hi (by omega), he j (by omega) hj]; exact h i j hi hij hj
theorem Srt.sub {S : Vr → Vr → Prop} {d : List Vr} {a b a' b' : Nat} (h : Srt S d a b) (ha : a ≤ a') (hb : b' ≤ b) : Srt S d a' b' := fun i j hi hij hj => h i j (by omega) hij (by omega)
theorem pass_sorts {S : Vr → Vr → Prop} (hO : Ord S) (s n : Nat) (hs : 0 < s) : ∀ (t b a k : Nat) (d : List Vr), n + 1 - b = t → d.length = n → a = 2 * s * k → b = a + 2 * s → a ≤ n → Tied S d → Done S d (2 * s) a → Runs S d s a n →
    ∃ k', (passL d a b s n).2 = 2 * s * k' ∧ (passL d a b s n).2 ≤ n ∧ n < (passL d a b s n).2 + 2 * s ∧ (passL d a b s n).1.length = n ∧ (passL d a b s n).1.Perm d ∧ Tied S (passL d a b s n).1 ∧ Done S (passL d a b s n).1 (2 * s) (passL d a b s n).2 ∧ Runs S (passL d a b s n).1 s (passL d a b s n).2 n := by
  intro t
  induction t using Nat.strongRecOn with
  | _ t ih =>
    intro b a k d ht hd ha hb han hT hD hR
    by_cases h : b ≤ n
    · rw [passL_yes h hs]
      have r1 : Srt S d a (a + s) := (hR 0 a (by omega)).sub (Nat.le_refl _) (by omega)
      have r2 : Srt S d (a + s) b := (hR 1 (a + s) (by omega)).sub (Nat.le_refl _) (by omega)
      obtain ⟨m1, m2⟩ := sym_sorts hO n n a (a + s) b d hd (by omega) (by omega) (by omega) h r1 r2 (fun i j h1 h2 h3 h4 => hT i j (by omega) (by omega))
      generalize symL n d a (a + s) b = d' at *
      have hp := ih (n + 1 - (b + 2 * s)) (by omega) (b + 2 * s) b (k + 1) d' rfl (m1.len.trans hd) (by rw [Nat.mul_add, Nat.mul_one]; omega) rfl h (hT.mix m1 m2 (by omega)) (fun q c hc hc2 => by
        by_cases e : c + 2 * s ≤ a
        · exact (hD q c hc e).same (fun k h1 h2 => m1.out k (.inl (by omega)))
        · have e1 : k ≤ q := by
            refine Nat.lt_succ_iff.1 (Nat.lt_of_mul_lt_mul_left (a := 2 * s) ?_)
            rw [Nat.mul_succ]; omega
          have e2 : q ≤ k := by
            refine Nat.lt_succ_iff.1 (Nat.lt_of_mul_lt_mul_left (a := 2 * s) ?_)
            rw [Nat.mul_succ]; omega
          have e3 : q = k := Nat.le_antisymm e2 e1
          have e4 : c = a := by rw [hc, ha, e3]
          rw [e4, ← hb]; exact m2) (fun q c hc => by
        refine (hR (q + 2) c (by rw [Nat.mul_add]; omega)).same (fun k h1 h2 => m1.out k (.inr (by omega))))
      obtain ⟨k', p1, p2, p3, p4, p5, p6⟩ := hp
      exact ⟨k', p1, p2, p3, p4, p5.trans m1.perm, p6⟩
    · rw [passL_no h]
      exact ⟨k, ha, han, by omega, hd, List.Perm.refl _, hT, hD, hR⟩
theorem merge_sorts {S : Vr → Vr → Prop} (hO : Ord S) (n : Nat) : ∀ (t s : Nat) (d : List Vr), n - s = t → 0 < s → d.length = n → Tied S d → Runs S d s 0 n → (mergeL d s n).Perm d ∧ Srt S (mergeL d s n) 0 n := by
  intro t
  induction t using Nat.strongRecOn with
  | _ t ih =>
    intro s d ht hs hd hT hR
    by_cases h : s < n
    · rw [mergeL_yes h hs]
      obtain ⟨k, p1, p2, p3, p4, p5, p6, p7, p8⟩ := pass_sorts hO s n hs _ (2 * s) 0 0 d rfl hd (by omega) (by omega) (by omega) hT (fun q c hc hc2 => by omega) hR
      generalize hq : passL d 0 (2 * s) s n = q at *
      obtain ⟨d1, a⟩ := q
      simp only at *
      have hlast : (lastL (d1, a) s n).Perm d1 ∧ Mix d1 (lastL (d1, a) s n) a n ∧ Srt S (lastL (d1, a) s n) a n := by
        unfold lastL
        simp only
        by_cases c : a + s < n
        · rw [if_pos c]
          obtain ⟨m1, m2⟩ := sym_sorts hO n n a (a + s) n d1 p4 (by omega) (by omega) c (Nat.le_refl _) ((p8 0 a (by omega)).sub (Nat.le_refl _) (by omega)) ((p8 1 (a + s) (by omega)).sub (Nat.le_refl _) (by omega)) (fun i j h1 h2 h3 h4 => p6 i j (by omega) (by omega))
          exact ⟨m1.perm, m1, m2⟩
        · rw [if_neg c]
          exact ⟨List.Perm.refl _, Mix.refl .., (p8 0 a (by omega)).sub (Nat.le_refl _) (by omega)⟩
      generalize lastL (d1, a) s n = d2 at *
      obtain ⟨l1, l2, l3⟩ := hlast
      obtain ⟨f1, f2⟩ := ih (n - s * 2) (by omega) (s * 2) d2 rfl (by omega) (l2.len.trans p4) (p6.mix l2 l3 (by omega)) (fun q c hc => by
        have hc2 : c = 2 * s * q := by rw [hc, Nat.mul_comm s 2]; omega
        by_cases e : c + 2 * s ≤ a
        · have := (p7 q c hc2 e).same (d' := d2) (fun k h1 h2 => l2.out k (.inl (by omega)))
          exact this.sub (Nat.le_refl _) (by omega)
        · have e1 : k ≤ q := by
            refine Nat.lt_succ_iff.1 (Nat.lt_of_mul_lt_mul_left (a := 2 * s) ?_)
            rw [Nat.mul_succ]; omega
          have e2 : a ≤ c := by
            rw [p1, hc2]; exact Nat.mul_le_mul_left _ e1
          exact l3.sub e2 (by omega))
      exact ⟨f1.trans (l1.trans p5), f2⟩
    · rw [mergeL_no h]
      exact ⟨List.Perm.refl _, (hR 0 0 (by omega)).sub (Nat.le_refl _) (by omega)⟩
theorem blk_sorts {S : Vr → Vr → Prop} (n : Nat) (hins : ∀ (d : List Vr) (a b : Nat), a ≤ b → b ≤ d.length → Tied S d → Mix d (insL d a b) a b ∧ Srt S (insL d a b) a b) : ∀ (t b a k : Nat) (d : List Vr), n + 1 - b = t → d.length = n → a = 20 * k → b = a + 20 → a ≤ n → Tied S d → Done S d 20 a →
    ∃ k', (blkL d a b n).2 = 20 * k' ∧ (blkL d a b n).2 ≤ n ∧ n < (blkL d a b n).2 + 20 ∧ (blkL d a b n).1.length = n ∧ (blkL d a b n).1.Perm d ∧ Tied S (blkL d a b n).1 ∧ Done S (blkL d a b n).1 20 (blkL d a b n).2 := by
  intro t
  induction t using Nat.strongRecOn with
  | _ t ih =>
    intro b a k d ht hd ha hb han hT hD
    by_cases h : b ≤ n
    · rw [blkL_yes h]
      obtain ⟨m1, m2⟩ := hins d a b (by omega) (by omega) hT
      generalize insL d a b = d' at *
      obtain ⟨k', p1, p2, p3, p4, p5, p6⟩ := ih (n + 1 - (b + 20)) (by omega) (b + 20) b (k + 1) d' rfl (m1.len.trans hd) (by omega) rfl h (hT.mix m1 m2 (by omega)) (fun q c hc hc2 => by
        by_cases e : c + 20 ≤ a
        · exact (hD q c hc e).same (fun k h1 h2 => m1.out k (.inl (by omega)))
        · have e4 : c = a := by omega
          rw [e4, ← hb]; exact m2)
      exact ⟨k', p1, p2, p3, p4, p5.trans m1.perm, p6⟩
    · rw [blkL_no h]
      exact ⟨k, ha, han, by omega, hd, List.Perm.refl _, hT, hD⟩
theorem stable_sorts {S : Vr → Vr → Prop} (hO : Ord S) (hins : ∀ (d : List Vr) (a b : Nat), a ≤ b → b ≤ d.length → Tied S d → Mix d (insL d a b) a b ∧ Srt S (insL d a b) a b) (d : List Vr) (hT : Tied S d) :
    (stableL d d.length).Perm d ∧ Srt S (stableL d d.length) 0 d.length := by
  obtain ⟨n, hn⟩ : ∃ n, n = d.length := ⟨_, rfl⟩
  rw [← hn]
  unfold stableL
  obtain ⟨k, p1, p2, p3, p4, p5, p6, p7⟩ := blk_sorts n hins _ 20 0 0 d rfl hn.symm (by omega) (by omega) (by omega) hT (fun q c hc hc2 => by omega)
  generalize hq : blkL d 0 20 n = q at *
  obtain ⟨d1, a⟩ := q
  simp only at *
  obtain ⟨m1, m2⟩ := hins d1 a n p2 (by omega) p6
  generalize insL d1 a n = d2 at *
  obtain ⟨f1, f2⟩ := merge_sorts hO n _ 20 d2 rfl (by omega) (m1.len.trans p4) (p6.mix m1 m2 (by omega)) (fun q c hc => by
    by_cases e : c + 20 ≤ a
    · have := (p7 q c (by omega) e).same (d' := d2) (fun k h1 h2 => m1.out k (.inl (by omega)))
      exact this.sub (Nat.le_refl _) (by omega)
    · exact m2.sub (by omega) (by omega))
  exact ⟨f1.trans (m1.perm.trans p5), f2⟩
end Li
end Go.Proofs.Ytgdfmoehbgmfkaa
