/- How many sectors a map has, and the map of the document. -/
import Derived.Test.YtjbgojccfkmlnaaRc
namespace Go.Proofs.Ytjbgojccfkmlnaa
open Go.RowKit
namespace Wi

/-- How many numbers below n are such. -/
def cnt (p : Nat → Bool) : Nat → Nat
  | 0 => 0
  | m + 1 => cnt p m + if p m then 1 else 0
theorem cnt_le (p : Nat → Bool) : ∀ n, cnt p n ≤ n
  | 0 => Nat.le_refl _
  | n + 1 => by
    have := cnt_le p n
    unfold cnt
    split <;> omega
theorem cnt_congr {p q : Nat → Bool} : ∀ {n : Nat}, (∀ i, i < n → p i = q i) → cnt p n = cnt q n
  | 0, _ => rfl
  | n + 1, h => by
    unfold cnt
    rw [cnt_congr (n := n) (fun i hi => h i (by omega)), h n (by omega)]
theorem cnt_or {p q : Nat → Bool} (hd : ∀ i, ¬ (p i = true ∧ q i = true)) : ∀ n, cnt (fun i => p i || q i) n = cnt p n + cnt q n
  | 0 => rfl
  | n + 1 => by
    unfold cnt
    rw [cnt_or hd n]
    cases hp : p n with
    | true =>
      cases hq : q n with
      | true => exact absurd ⟨hp, hq⟩ (hd n)
      | false => simp; omega
    | false =>
      cases hq : q n with
      | true => simp; omega
      | false => simp
theorem cnt_span (a b : Nat) : ∀ n, a + b ≤ n → cnt (fun i => decide (a ≤ i ∧ i < a + b)) n = b := by
  have main : ∀ n, cnt (fun i => decide (a ≤ i ∧ i < a + b)) n = min (n - a) b := by
    intro n
    induction n with
    | zero => simp [cnt]
    | succ n ih =>
      unfold cnt
      rw [ih]
      by_cases h : a ≤ n ∧ n < a + b
      · rw [if_pos (decide_eq_true h)]
        omega
      · rw [if_neg (by simpa using h)]
        omega
  intro n hn
  rw [main]
  omega
theorem lens_cnt {n : Nat} : ∀ {l : List Xt}, Ris l → (∀ x ∈ l, x.fin ≤ n) → lens l = cnt (fun i => (spot l i).isSome) n
  | [], _, _ => by
    have : ∀ n, cnt (fun i => (spot [] i).isSome) n = 0 := by
      intro n
      induction n with
      | zero => rfl
      | succ n ih => unfold cnt; rw [ih]; rfl
    rw [this]
    rfl
  | x :: r, hr, h => by
    have ih := lens_cnt (l := r) hr.tail fun y hy => h y (by simp [hy])
    have e : ∀ i, (spot (x :: r) i).isSome = (decide (x.at_ ≤ i ∧ i < x.at_ + x.len) || (spot r i).isSome) := fun i => by
      rw [spot]
      unfold Xt.fin
      by_cases hi : x.at_ ≤ i ∧ i < x.at_ + x.len
      · rw [if_pos hi, decide_eq_true hi]
        rfl
      · rw [if_neg hi, decide_eq_false hi, Bool.false_or]
    rw [cnt_congr fun i _ => e i, cnt_or (fun i hi => ?_), cnt_span x.at_ x.len n (h x (by simp)), ← ih]
    · rfl
    · have h1 := of_decide_eq_true hi.1
      have h2 : spot r i = none := spot_out fun y hy => .inl (by
        have := hr.first y hy
        unfold Xt.fin at this
        omega)
      rw [h2] at hi
      cases hi.2
/-- A map that says what the document's map says has as many sectors. -/
theorem lens_rel {l : List Xt} {d : Rf} {n : Nat} (hl : Can l) (hf : ∀ x ∈ l, x.fin ≤ n) (h : Rel l d n) : lens l = cnt d.is n := by
  rw [lens_cnt hl.ris hf]
  refine cnt_congr fun i hi => ?_
  rw [h i]
  cases hd : d.is i with
  | true => rw [if_pos ⟨hi, rfl⟩]; rfl
  | false => rw [if_neg (fun e => by cases e.2)]; rfl
set_option maxHeartbeats 4000000 in
set_option maxRecDepth 20000 in
theorem refsectors_any {w : World} {r gi gs n : Nat} {d : Rf} (h : RefM w r gi gs n d) (hn : n ≤ 65536) : Calls Try.prog 38 #[.pointer (some ⟨r, 0, none⟩)] w fun e w' => e = .returned (.int .i64 (cnt d.is n : Nat)) ∧ Below w.heap.size w w' := by
  have HR := hide h
  have HLE := hide (cnt_le d.is)
  clear h
  go_enter Try.func38, Try.ntmps38
  go_wp2
  go_loopw [3, 4] (fun s i wr => ∃ k : Nat, k ≤ n ∧ i = .int .i64 k ∧ s = .int .i64 (cnt d.is k : Nat) ∧ Below w.heap.size w wr) (fun _ i _ => n - (intOf i).toNat)
  case atStart => exact ⟨0, Nat.zero_le _, rfl, rfl, Below.refl _ _⟩
  case round =>
    obtain ⟨k, hk, rfl, rfl, hb⟩ := hrel
    have c0 := (HR.out.later hb).c0
    have hle := HLE.out k
    by_cases hlt : k < n
    · have cb := (HR.out.later hb).b (i := k) hlt
      have HT : Hid (cnt d.is (k + 1) = cnt d.is k + if d.is k then 1 else 0) := rfl
      have HB := hide hb
      clear hb
      cases hd : d.is k with
      | true =>
        rw [hd] at cb
        have HT1 : Hid (cnt d.is (k + 1) = cnt d.is k + 1) := by show _ = _; rw [HT.out, hd]; rfl
        clear hd HT
        generalize cnt d.is k = C at *
        go_wp2
        go_roundw
        case rel => exact ⟨k + 1, by omega, by go_num, by rw [HT1.out]; go_num, HB.out⟩
        case measure => simp [intOf]; omega
      | false =>
        rw [hd] at cb
        have HT1 : Hid (cnt d.is (k + 1) = cnt d.is k) := by show _ = _; rw [HT.out, hd]; rfl
        clear hd HT
        generalize cnt d.is k = C at *
        go_wp2
        go_roundw
        case rel => exact ⟨k + 1, by omega, by go_num, by rw [HT1.out], HB.out⟩
        case measure => simp [intOf]; omega
    · obtain rfl : k = n := by omega
      have HB := hide hb
      clear hb
      go_wp2
      go_ret
      exact ⟨rfl, HB.out⟩

end Wi
end Go.Proofs.Ytjbgojccfkmlnaa
