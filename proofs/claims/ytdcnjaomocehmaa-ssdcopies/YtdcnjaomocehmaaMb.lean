/- A device of sectors as a plain machine: what lasts, what is pending, what a crash leaves; no program. -/
import Derived.Test.YtdcnjaomocehmaaMa
namespace Go.Proofs.Ytdcnjaomocehmaa
namespace Wi

/-- A device: lasting sectors, pending writes in order, is it lost, how many calls are still done. -/
structure Dv where
  last : List (List Nat)
  pend : List (Nat × List Nat)
  gone : Bool
  stop : Option Nat
/-- What a sector has behind writes. -/
def over (s : List Nat) (i : Nat) : List (Nat × List Nat) → List Nat
  | [] => s
  | p :: r => over (if p.1 = i then p.2 else s) i r
theorem over_append (i : Nat) : ∀ (l m : List (Nat × List Nat)) (s : List Nat), over s i (l ++ m) = over (over s i l) i m
  | [], _, _ => rfl
  | _ :: r, m, _ => over_append i r m _
theorem over_apart (i : Nat) : ∀ (l : List (Nat × List Nat)) (s : List Nat), (∀ p ∈ l, p.1 ≠ i) → over s i l = s
  | [], _, _ => rfl
  | p :: r, s, h => by
    rw [over, if_neg (h p (by simp))]
    exact over_apart i r s fun q hq => h q (by simp [hq])
theorem over_mem (i : Nat) : ∀ (l : List (Nat × List Nat)) (s : List Nat), over s i l = s ∨ ∃ p ∈ l, p.1 = i ∧ over s i l = p.2
  | [], _ => .inl rfl
  | p :: r, s => by
    rw [over]
    rcases over_mem i r (if p.1 = i then p.2 else s) with h | ⟨q, hq, h1, h2⟩
    · by_cases hp : p.1 = i
      · rw [if_pos hp] at h ⊢
        exact .inr ⟨p, by simp, hp, h⟩
      · rw [if_neg hp] at h ⊢
        exact .inl h
    · exact .inr ⟨q, by simp [hq], h1, h2⟩
/-- What a device has at a sector. -/
def Dv.at (d : Dv) (i : Nat) : List Nat := over (d.last.getD i []) i d.pend
/-- Sectors, one behind the other. -/
def Dv.secs (d : Dv) (a n : Nat) : List Nat := (List.range n).flatMap fun i => d.at (a + i)
theorem Dv.secs_add (d : Dv) (a n m : Nat) : d.secs a (n + m) = d.secs a n ++ d.secs (a + n) m := by
  unfold Dv.secs
  rw [List.range_add, List.flatMap_append, List.flatMap_map]
  congr 1
  simp only [Nat.add_assoc]
/-- The pending writes of data, from a sector on (n whole sectors). -/
def puts (a : Nat) (data : List Nat) : Nat → List (Nat × List Nat)
  | 0 => []
  | n + 1 => (a, data.take 64) :: puts (a + 1) (data.drop 64) n
theorem puts_length : ∀ (n a : Nat) (data : List Nat), (puts a data n).length = n
  | 0, _, _ => rfl
  | n + 1, a, data => by simp [puts, puts_length n]
theorem puts_add : ∀ (n m a : Nat) (data : List Nat), puts a data (n + m) = puts a (data.take (64 * n)) n ++ puts (a + n) (data.drop (64 * n)) m
  | 0, m, a, data => by simp [puts]
  | n + 1, m, a, data => by
    have e1 : (data.take (64 * (n + 1))).drop 64 = (data.drop 64).take (64 * n) := by
      rw [List.drop_take, show 64 * (n + 1) - 64 = 64 * n by omega]
    have e2 : (data.take (64 * (n + 1))).take 64 = data.take 64 := by
      rw [List.take_take, show min 64 (64 * (n + 1)) = 64 by omega]
    have e3 : data.drop (64 * (n + 1)) = (data.drop 64).drop (64 * n) := by
      rw [List.drop_drop]
      congr 1
      omega
    rw [show n + 1 + m = (n + m) + 1 by omega, puts, puts, puts_add n m (a + 1) (data.drop 64), e1, e2, e3, show a + 1 + n = a + (n + 1) by omega]
    rfl
theorem puts_at : ∀ (n a : Nat) (data : List Nat), ∀ p ∈ puts a data n, a ≤ p.1 ∧ p.1 < a + n
  | 0, _, _, p, h => by simp [puts] at h
  | n + 1, a, data, p, h => by
    rw [puts, List.mem_cons] at h
    rcases h with h | h
    · subst h; exact ⟨Nat.le_refl _, by omega⟩
    · have := puts_at n (a + 1) _ p h; omega
theorem puts_whole : ∀ (n a : Nat) (data : List Nat), data.length = 64 * n → ∀ p ∈ puts a data n, p.2.length = 64
  | 0, _, _, _, p, h => by simp [puts] at h
  | n + 1, a, data, hl, p, h => by
    rw [puts, List.mem_cons] at h
    rcases h with h | h
    · subst h; show (data.take 64).length = 64; rw [List.length_take]; omega
    · exact puts_whole n (a + 1) _ (by rw [List.length_drop]; omega) p h
/-- What was written is there. -/
theorem over_puts : ∀ (n a : Nat) (data s : List Nat) (i : Nat), i < n → over s (a + i) (puts a data n) = (data.drop (64 * i)).take 64
  | 0, _, _, _, _, h => by omega
  | n + 1, a, data, s, i, h => by
    cases i with
    | zero =>
      rw [puts, over, if_pos (by simp), over_apart]
      · simp
      · intro p hp
        have := puts_at n (a + 1) _ p hp
        omega
    | succ i =>
      rw [puts, over, if_neg (by simp), show a + (i + 1) = a + 1 + i by omega, over_puts n (a + 1) _ _ i (by omega), List.drop_drop]
      congr 2
      omega
/-- What a crash does with a write: lost, kept, torn. -/
def how (k : Int) : Nat := (k % 3).toNat
theorem how_lt (k : Int) : how k < 3 := by unfold how; omega
def left1 (s p : List Nat) (h : Nat) : List Nat := if h = 1 then p else if h = 2 then p.take 32 ++ s.drop 32 else s
/-- Behind a crash: the writes, one by one, each with the next of keep. -/
def crashes : List (List Nat) → List (Nat × List Nat) → List Int → List (List Nat)
  | last, [], _ => last
  | last, p :: r, keep => crashes (last.set p.1 (left1 (last.getD p.1 []) p.2 (how (keep.headD 0)))) r keep.tail
theorem crashes_length : ∀ (l : List (Nat × List Nat)) (last : List (List Nat)) (keep : List Int), (crashes last l keep).length = last.length
  | [], _, _ => rfl
  | p :: r, last, keep => by rw [crashes, crashes_length r, List.length_set]
/-- Sectors that no write tells of are as they were. -/
theorem crashes_apart (i : Nat) : ∀ (l : List (Nat × List Nat)) (last : List (List Nat)) (keep : List Int), (∀ p ∈ l, p.1 ≠ i) → (crashes last l keep).getD i [] = last.getD i []
  | [], _, _, _ => rfl
  | p :: r, last, keep, h => by
    rw [crashes, crashes_apart i r _ _ fun q hq => h q (by simp [hq])]
    have hp := h p (by simp)
    simp [List.getD, hp]
/-- A sector behind a crash: each half is that of what lasted, or of a write of it. -/
theorem crashes_halves (i : Nat) : ∀ (l : List (Nat × List Nat)) (last : List (List Nat)) (keep : List Int), (∀ p ∈ l, p.2.length = 64) → (last.getD i []).length = 64 → i < last.length →
    ((crashes last l keep).getD i []).length = 64 ∧
    (((crashes last l keep).getD i []).take 32 = (last.getD i []).take 32 ∨ ∃ p ∈ l, p.1 = i ∧ ((crashes last l keep).getD i []).take 32 = p.2.take 32) ∧
    (((crashes last l keep).getD i []).drop 32 = (last.getD i []).drop 32 ∨ ∃ p ∈ l, p.1 = i ∧ ((crashes last l keep).getD i []).drop 32 = p.2.drop 32)
  | [], last, _, _, hs, _ => ⟨hs, .inl rfl, .inl rfl⟩
  | p :: r, last, keep, hl, hs, hi => by
    rw [crashes]
    have hpl := hl p (by simp)
    by_cases hp : p.1 = i
    · have hg : (last.set p.1 (left1 (last.getD p.1 []) p.2 (how (keep.headD 0)))).getD i [] = left1 (last.getD i []) p.2 (how (keep.headD 0)) := by
        rw [hp]
        simp [List.getD, hi]
      have h1 : (left1 (last.getD i []) p.2 (how (keep.headD 0))).length = 64 ∧ ((left1 (last.getD i []) p.2 (how (keep.headD 0))).take 32 = (last.getD i []).take 32 ∨ (left1 (last.getD i []) p.2 (how (keep.headD 0))).take 32 = p.2.take 32) ∧ ((left1 (last.getD i []) p.2 (how (keep.headD 0))).drop 32 = (last.getD i []).drop 32 ∨ (left1 (last.getD i []) p.2 (how (keep.headD 0))).drop 32 = p.2.drop 32) := by
        generalize last.getD i [] = s at *
        unfold left1
        split
        · exact ⟨hpl, .inr rfl, .inr rfl⟩
        · split
          · have ht : (p.2.take 32).length = 32 := by rw [List.length_take]; omega
            refine ⟨by rw [List.length_append, ht, List.length_drop]; omega, .inr ?_, .inl ?_⟩
            · rw [List.take_append_of_le_length (by omega), List.take_of_length_le (by omega)]
            · have := List.drop_left (l₁ := p.2.take 32) (l₂ := s.drop 32)
              rwa [ht] at this
          · exact ⟨hs, .inl rfl, .inl rfl⟩
      have ih := crashes_halves i r (last.set p.1 (left1 (last.getD p.1 []) p.2 (how (keep.headD 0)))) keep.tail (fun q hq => hl q (by simp [hq])) (by rw [hg]; exact h1.1) (by rw [List.length_set]; exact hi)
      rw [hg] at ih
      refine ⟨ih.1, ?_, ?_⟩
      · rcases ih.2.1 with h | ⟨q, hq, e1, e2⟩
        · rcases h1.2.1 with h' | h'
          · exact .inl (h.trans h')
          · exact .inr ⟨p, by simp, hp, h.trans h'⟩
        · exact .inr ⟨q, by simp [hq], e1, e2⟩
      · rcases ih.2.2 with h | ⟨q, hq, e1, e2⟩
        · rcases h1.2.2 with h' | h'
          · exact .inl (h.trans h')
          · exact .inr ⟨p, by simp, hp, h.trans h'⟩
        · exact .inr ⟨q, by simp [hq], e1, e2⟩
    · have hg : (last.set p.1 (left1 (last.getD p.1 []) p.2 (how (keep.headD 0)))).getD i [] = last.getD i [] := by
        simp [List.getD, hp]
      have ih := crashes_halves i r (last.set p.1 (left1 (last.getD p.1 []) p.2 (how (keep.headD 0)))) keep.tail (fun q hq => hl q (by simp [hq])) (by rw [hg]; exact hs) (by rw [List.length_set]; exact hi)
      rw [hg] at ih
      refine ⟨ih.1, ?_, ?_⟩
      · rcases ih.2.1 with h | ⟨q, hq, e1, e2⟩
        · exact .inl h
        · exact .inr ⟨q, by simp [hq], e1, e2⟩
      · rcases ih.2.2 with h | ⟨q, hq, e1, e2⟩
        · exact .inl h
        · exact .inr ⟨q, by simp [hq], e1, e2⟩
/-- A barrier: all is lasting. -/
def settle : List (List Nat) → List (Nat × List Nat) → List (List Nat)
  | last, [] => last
  | last, p :: r => settle (last.set p.1 p.2) r
theorem settle_length : ∀ (l : List (Nat × List Nat)) (last : List (List Nat)), (settle last l).length = last.length
  | [], _ => rfl
  | p :: r, last => by rw [settle, settle_length r, List.length_set]
theorem settle_at (i : Nat) : ∀ (l : List (Nat × List Nat)) (last : List (List Nat)), i < last.length → (settle last l).getD i [] = over (last.getD i []) i l
  | [], _, _ => rfl
  | p :: r, last, h => by
    rw [settle, settle_at i r _ (by rw [List.length_set]; exact h), over]
    congr 1
    by_cases hp : p.1 = i
    · rw [if_pos hp, hp]
      simp [List.getD, h]
    · rw [if_neg hp]
      simp [List.getD, hp]

theorem settle_append : ∀ (l m : List (Nat × List Nat)) (last : List (List Nat)), settle last (l ++ m) = settle (settle last l) m
  | [], _, _ => rfl
  | _ :: r, m, _ => settle_append r m _
theorem settle_snoc (l : List (Nat × List Nat)) (p : Nat × List Nat) (last : List (List Nat)) : settle last (l ++ [p]) = (settle last l).set p.1 p.2 := by rw [settle_append]; rfl
/-- What the sectors held ahead of each write. -/
def logOf : List (List Nat) → List (Nat × List Nat) → List (Nat × List Nat)
  | _, [] => []
  | last, p :: r => (p.1, last.getD p.1 []) :: logOf (last.set p.1 p.2) r
theorem logOf_append : ∀ (l m : List (Nat × List Nat)) (last : List (List Nat)), logOf last (l ++ m) = logOf last l ++ logOf (settle last l) m
  | [], _, _ => rfl
  | p :: r, m, last => by
    show _ :: logOf _ (r ++ m) = _ :: logOf _ r ++ _
    rw [logOf_append r m]
    rfl
theorem logOf_length : ∀ (l : List (Nat × List Nat)) (last : List (List Nat)), (logOf last l).length = l.length
  | [], _ => rfl
  | _ :: r, _ => by rw [logOf, List.length_cons, List.length_cons, logOf_length r]
theorem logOf_snoc (l : List (Nat × List Nat)) (p : Nat × List Nat) (last : List (List Nat)) : logOf last (l ++ [p]) = logOf last l ++ [(p.1, (settle last l).getD p.1 [])] := by rw [logOf_append]; rfl
/-- The changes, when all behind the first k have been taken back. -/
def logAt (last : List (List Nat)) (l : List (Nat × List Nat)) (k : Nat) : List (Nat × List Nat) := logOf last (l.take k) ++ l.drop k
theorem logAt_length (last : List (List Nat)) (l : List (Nat × List Nat)) {k : Nat} (h : k ≤ l.length) : (logAt last l k).length = l.length := by
  rw [logAt, List.length_append, logOf_length, List.length_take, List.length_drop]; omega
theorem logAt_all (last : List (List Nat)) (l : List (Nat × List Nat)) : logAt last l l.length = logOf last l := by simp [logAt]
theorem logAt_zero (last : List (List Nat)) (l : List (Nat × List Nat)) : logAt last l 0 = l := by simp [logAt, logOf]
theorem logAt_get {last : List (List Nat)} {l : List (Nat × List Nat)} {k : Nat} {p : Nat × List Nat} (h : l[k]? = some p) : (logAt last l (k + 1))[k]? = some (p.1, (settle last (l.take k)).getD p.1 []) := by
  have hk : k < l.length := (List.getElem?_eq_some_iff.1 h).1
  have hl : (logOf last (l.take k)).length = k := by rw [logOf_length, List.length_take]; omega
  rw [logAt, snoc_take _ _ _ h, logOf_snoc, List.append_assoc, List.getElem?_append_right (by omega), hl]
  simp
theorem logAt_back {last : List (List Nat)} {l : List (Nat × List Nat)} {k : Nat} {p : Nat × List Nat} (h : l[k]? = some p) : (logAt last l (k + 1)).set k p = logAt last l k := by
  have hk : k < l.length := (List.getElem?_eq_some_iff.1 h).1
  have hl : (logOf last (l.take k)).length = k := by rw [logOf_length, List.length_take]; omega
  have hd : l.drop k = p :: l.drop (k + 1) := by
    rw [List.drop_eq_getElem_cons hk]
    congr 1
    exact (List.getElem?_eq_some_iff.1 h).2
  rw [logAt, logAt, snoc_take _ _ _ h, logOf_snoc, List.append_assoc, List.set_append_right _ _ (by omega), hl, hd]
  simp
theorem settle_back {last : List (List Nat)} {l : List (Nat × List Nat)} {k : Nat} {p : Nat × List Nat} (h : l[k]? = some p) (hp : p.1 < last.length) :
    (settle last (l.take (k + 1)))[p.1]? = some p.2 ∧ (settle last (l.take (k + 1))).set p.1 ((settle last (l.take k)).getD p.1 []) = settle last (l.take k) := by
  have hs := settle_length (l.take k) last
  rw [snoc_take _ _ _ h, settle_snoc]
  refine ⟨by rw [List.getElem?_set_self (by omega)], ?_⟩
  rw [List.set_set]
  have hg : (settle last (l.take k))[p.1]? = some ((settle last (l.take k)).getD p.1 []) := by
    rw [List.getD, List.getElem?_eq_getElem (by omega)]; rfl
  apply List.ext_getElem?
  intro j
  rw [List.getElem?_set]
  split
  · rename_i e
    subst e
    rw [if_pos (by omega), hg]
  · rfl
/-- A crash of one write more. -/
theorem crashes_snoc : ∀ (l : List (Nat × List Nat)) (p : Nat × List Nat) (last : List (List Nat)) (keep : List Int), crashes last (l ++ [p]) keep = (crashes last l keep).set p.1 (left1 ((crashes last l keep).getD p.1 []) p.2 (how (keep.getD l.length 0)))
  | [], p, last, keep => by cases keep <;> simp [crashes]
  | q :: r, p, last, keep => by
    rw [List.cons_append, crashes, crashes_snoc r, crashes]
    congr 2
    cases keep <;> simp
theorem puts_snoc : ∀ (n a : Nat) (data : List Nat), puts a data (n + 1) = puts a data n ++ [(a + n, (data.drop (64 * n)).take 64)]
  | 0, a, data => by simp [puts]
  | n + 1, a, data => by
    rw [puts, puts_snoc n, puts, List.cons_append, List.drop_drop]
    congr 4
    · omega
    · congr 2
      omega
/-- All sectors are whole. -/
structure Dv.Ok (d : Dv) : Prop where
  most : d.last.length ≤ 65536
  whole : ∀ s ∈ d.last, s.length = 64
  pend : ∀ p ∈ d.pend, p.1 < d.last.length ∧ p.2.length = 64
theorem set_whole {l : List (List Nat)} {i : Nat} {x : List Nat} (h : ∀ s ∈ l, s.length = 64) (hx : x.length = 64) : ∀ s ∈ l.set i x, s.length = 64 := fun s hs => by
  rcases List.mem_or_eq_of_mem_set hs with h1 | h1
  · exact h s h1
  · rw [h1]; exact hx
theorem settle_whole : ∀ (l : List (Nat × List Nat)) (last : List (List Nat)), (∀ s ∈ last, s.length = 64) → (∀ p ∈ l, p.2.length = 64) → ∀ s ∈ settle last l, s.length = 64
  | [], _, h, _ => h
  | p :: r, last, h, hp => settle_whole r _ (set_whole h (hp p (by simp))) fun q hq => hp q (by simp [hq])
theorem left1_whole {s p : List Nat} {h : Nat} (hs : s.length = 64) (hp : p.length = 64) : (left1 s p h).length = 64 := by
  unfold left1
  split
  · exact hp
  · split
    · rw [List.length_append, List.length_take, List.length_drop]; omega
    · exact hs
theorem getD_whole {l : List (List Nat)} {i : Nat} (h : ∀ s ∈ l, s.length = 64) (hi : i < l.length) : (l.getD i []).length = 64 := by
  rw [List.getD, List.getElem?_eq_getElem hi]
  exact h _ (List.getElem_mem hi)
theorem crashes_whole : ∀ (l : List (Nat × List Nat)) (last : List (List Nat)) (keep : List Int), (∀ s ∈ last, s.length = 64) → (∀ p ∈ l, p.1 < last.length ∧ p.2.length = 64) → ∀ s ∈ crashes last l keep, s.length = 64
  | [], _, _, h, _ => h
  | p :: r, last, keep, h, hp => crashes_whole r _ _ (set_whole h (left1_whole (getD_whole h (hp p (by simp)).1) (hp p (by simp)).2)) fun q hq => by
      rw [List.length_set]
      exact hp q (by simp [hq])
theorem logOf_whole : ∀ (l : List (Nat × List Nat)) (last : List (List Nat)), (∀ s ∈ last, s.length = 64) → (∀ p ∈ l, p.1 < last.length ∧ p.2.length = 64) → ∀ p ∈ logOf last l, p.1 < last.length ∧ p.2.length = 64
  | [], _, _, _ => by simp [logOf]
  | p :: r, last, h, hp => fun q hq => by
    rw [logOf, List.mem_cons] at hq
    have h0 := hp p (by simp)
    rcases hq with rfl | hq
    · exact ⟨h0.1, getD_whole h h0.1⟩
    · have := logOf_whole r (last.set p.1 p.2) (set_whole h h0.2) (fun q hq => by rw [List.length_set]; exact hp q (by simp [hq])) q hq
      rwa [List.length_set] at this
/-- What the sectors have now. -/
def Dv.now (d : Dv) : List (List Nat) := settle d.last d.pend
theorem Dv.now_length (d : Dv) : d.now.length = d.last.length := settle_length _ _
theorem Dv.Ok.now {d : Dv} (h : d.Ok) : ∀ s ∈ d.now, s.length = 64 := settle_whole _ _ h.whole fun p hp => (h.pend p hp).2
theorem Dv.at_now {d : Dv} {i : Nat} (h : i < d.last.length) : d.now.getD i [] = d.at i := settle_at i _ _ h
theorem Dv.now_get {d : Dv} {i : Nat} (h : i < d.last.length) : d.now[i]? = some (d.at i) := by
  rw [← Dv.at_now h, List.getD, List.getElem?_eq_getElem (by rw [d.now_length]; exact h)]; rfl
theorem Dv.Ok.at {d : Dv} (h : d.Ok) {i : Nat} (hi : i < d.last.length) : (d.at i).length = 64 := h.now _ (List.mem_of_getElem? (Dv.now_get hi))
/-- Is it lost, or has it stopped? -/
def Dv.dead (d : Dv) : Bool := d.gone || d.stop == some 0
/-- A call more is done. -/
def Dv.tick (d : Dv) : Dv := { d with stop := d.stop.map (· - 1) }
/-- Are there not so many sectors from one on? -/
def Dv.beyond (d : Dv) (a n : Int) : Bool := decide ((d.last.length : Int) - a < n)
/-- Is something wrong with a write? -/
def Dv.writeE (d : Dv) (a : Int) (data : List Nat) : Int := if a < 0 then 1 else if data.length % 64 ≠ 0 then 30 else if d.beyond a ((data.length / 64 : Nat) : Int) then 31 else 0
def Dv.write (d : Dv) (a : Int) (data : List Nat) : Dv :=
  if d.dead then d else if d.writeE a data = 0 then { d.tick with pend := d.pend ++ puts a.toNat data (data.length / 64) } else d.tick
def Dv.writeA (d : Dv) (a : Int) (data : List Nat) : Int := if d.dead then 17 else d.writeE a data
def Dv.barrier (d : Dv) : Dv := if d.dead then d else { d.tick with last := d.now, pend := [] }
def Dv.barrierA (d : Dv) : Int := if d.dead then 17 else 0
def Dv.crash (d : Dv) (keep : List Int) : Dv := { d with last := crashes d.last d.pend keep, pend := [], stop := none }
def Dv.halt (d : Dv) (n : Int) : Dv := { d with stop := if n < 0 then none else some n.toNat }
def Dv.lose (d : Dv) : Dv := { d with gone := true }
/-- What a read answers: an error, or bytes. -/
def Dv.readE (d : Dv) (a n : Int) : Int := if d.gone then 17 else if a < 0 ∨ n < 0 then 1 else if d.beyond a n then 31 else 0
def Dv.readS (d : Dv) (a n : Int) : List Nat := if d.readE a n = 0 then d.secs a.toNat n.toNat else []
/-- New devices. -/
def dv0 (n : Nat) : Dv := ⟨List.replicate n (List.replicate 64 0), [], false, none⟩
theorem dv0_ok {n : Nat} (h : n ≤ 65536) : (dv0 n).Ok := ⟨by simpa [dv0] using h, by simp [dv0], by simp [dv0]⟩
theorem Dv.Ok.tick {d : Dv} (h : d.Ok) : d.tick.Ok := ⟨h.most, h.whole, h.pend⟩
theorem Dv.Ok.add {d : Dv} (h : d.Ok) {a : Nat} {data : List Nat} {n : Nat} (hn : a + n ≤ d.last.length) (hl : data.length = 64 * n) (s : Option Nat) : Dv.Ok { d with pend := d.pend ++ puts a data n, stop := s } :=
  ⟨h.most, h.whole, fun p hp => by
    rcases List.mem_append.1 hp with hp | hp
    · exact h.pend p hp
    · have := puts_at n a data p hp
      exact ⟨by show p.1 < d.last.length; omega, puts_whole n a data hl p hp⟩⟩
theorem Dv.writeE_zero {d : Dv} {a : Int} {data : List Nat} (h : d.writeE a data = 0) : 0 ≤ a ∧ data.length = 64 * (data.length / 64) ∧ a.toNat + data.length / 64 ≤ d.last.length := by
  unfold Dv.writeE at h
  split at h
  · simp at h
  · split at h
    · simp at h
    · split at h
      · simp at h
      · rename_i h1 h2 h3
        simp only [Dv.beyond, decide_eq_true_eq] at h3
        refine ⟨by omega, by omega, by omega⟩
theorem Dv.Ok.write {d : Dv} (h : d.Ok) (a : Int) (data : List Nat) : (d.write a data).Ok := by
  unfold Dv.write
  split
  · exact h
  · split
    · rename_i he
      have := Dv.writeE_zero he
      exact h.add this.2.2 this.2.1 _
    · exact h.tick
theorem Dv.Ok.barrier {d : Dv} (h : d.Ok) : d.barrier.Ok := by
  unfold Dv.barrier
  split
  · exact h
  · exact ⟨by show d.now.length ≤ _; rw [d.now_length]; exact h.most, h.now, by simp⟩
theorem Dv.Ok.crash {d : Dv} (h : d.Ok) (keep : List Int) : (d.crash keep).Ok :=
  ⟨by show (crashes _ _ _).length ≤ _; rw [crashes_length]; exact h.most, crashes_whole _ _ _ h.whole h.pend, by simp [Dv.crash]⟩
theorem Dv.secs_length {d : Dv} (h : d.Ok) (a : Nat) : ∀ n, a + n ≤ d.last.length → (d.secs a n).length = 64 * n
  | 0, _ => rfl
  | n + 1, hn => by
    rw [Dv.secs_add, List.length_append, Dv.secs_length h a n (by omega)]
    simp [Dv.secs, h.at (show a + n < d.last.length by omega)]
    omega
theorem Dv.secs_succ (d : Dv) (a n : Nat) : d.secs a (n + 1) = d.secs a n ++ d.at (a + n) := by
  rw [Dv.secs_add]
  congr 1
  simp [Dv.secs]

end Wi
end Go.Proofs.Ytdcnjaomocehmaa
