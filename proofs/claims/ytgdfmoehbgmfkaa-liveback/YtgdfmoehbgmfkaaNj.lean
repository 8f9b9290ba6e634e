/- Which part is less; lists of ints. -/
import Derived.Test.YtgdfmoehbgmfkaaNi
namespace Go.Proofs.Ytgdfmoehbgmfkaa
open Go.RowKit
namespace Li
open Wi
theorem mul_rng {a b : Int} (h0 : 0 ≤ a) (h1 : a ≤ 65536) (h2 : 0 ≤ b) (h3 : b ≤ 65536) : -9223372036854775808 ≤ a * b ∧ a * b ≤ 9223372036854775807 := by
  have h4 := Int.mul_nonneg h0 h2
  have h5 := Int.mul_le_mul_of_nonneg_right h1 h2
  omega
theorem mul_rng2 {a b : Int} (h0 : -1000000 ≤ a) (h1 : a ≤ 1000000) (h2 : 0 ≤ b) (h3 : b ≤ 65536) : -9223372036854775808 ≤ a * b ∧ a * b ≤ 9223372036854775807 := by
  have h5 := Int.mul_le_mul_of_nonneg_right h1 h2
  have h6 := Int.mul_le_mul_of_nonneg_right h0 h2
  omega
theorem lessR_eq (a b : Ro) : lessR a b = (decide (a.2.2 * b.2.1 < b.2.2 * a.2.1) || (decide (a.2.2 * b.2.1 = b.2.2 * a.2.1) && decide (a.1 < b.1))) := rfl
set_option maxHeartbeats 4000000 in
theorem less_any (x y : Ro) (hx : mayRo x = true) (hy : mayRo y = true) (w : World) : Calls Try.prog 49 #[.agg #[.int .i64 x.1, .int .i64 x.2.1, .int .i64 x.2.2], .agg #[.int .i64 y.1, .int .i64 y.2.1, .int .i64 y.2.2]] w fun e w' => e = .returned (.bool (lessR x y)) ∧ Below w.heap.size w w' := by
  obtain ⟨x1, x2, x3⟩ := x
  obtain ⟨y1, y2, y3⟩ := y
  have hb1 := below_alloc w (.cells #[.int .i64 x1, .int .i64 x2, .int .i64 x3] 35)
  have HB := hide (hb1.alloc hb1.size (.cells #[.int .i64 y1, .int .i64 y2, .int .i64 y3] 35))
  have ax := mayR_get hx
  have ay := mayR_get hy
  obtain ⟨p1, p2⟩ := mul_rng ax.2.2.2.2.1 (by omega) ay.2.2.1 ay.2.2.2.1
  obtain ⟨q1, q2⟩ := mul_rng ay.2.2.2.2.1 (by omega) ax.2.2.1 ax.2.2.2.1
  have HQ := hide (lessR_eq (x1, x2, x3) (y1, y2, y3))
  simp only at *
  clear hx hy hb1 ax ay
  by_cases h1 : x3 * y2 < y3 * x2
  · have HR : Hid (lessR (x1, x2, x3) (y1, y2, y3) = true) := by show _ = _; rw [HQ.out, decide_eq_true h1]; rfl
    clear HQ
    go_enter Try.func49, Try.ntmps49
    go_wp2
    go_ret
    exact ⟨by rw [HR.out]; rfl, HB.out⟩
  · have d1 : decide (x3 * y2 < y3 * x2) = false := decide_eq_false h1
    by_cases h2 : x3 * y2 = y3 * x2
    · have d2 : decide (x3 * y2 = y3 * x2) = true := decide_eq_true h2
      have HR : Hid (lessR (x1, x2, x3) (y1, y2, y3) = decide (x1 < y1)) := by show _ = _; rw [HQ.out, d1, d2]; rfl
      clear HQ
      have H2 := hide h2
      clear h2
      go_enter Try.func49, Try.ntmps49
      go_wp2
      go_ret
      exact ⟨by rw [HR.out]; rfl, HB.out⟩
    · have d2 : decide (x3 * y2 = y3 * x2) = false := decide_eq_false h2
      have HR : Hid (lessR (x1, x2, x3) (y1, y2, y3) = false) := by show _ = _; rw [HQ.out, d1, d2]; rfl
      clear HQ
      go_enter Try.func49, Try.ntmps49
      go_wp2
      go_ret
      exact ⟨by rw [HR.out]; rfl, HB.out⟩
/-- A list of ints that is owned. -/
def isV (l : List Int) : List Value := l.map (.int .i64)
theorem isV_len (l : List Int) : (isV l).length = l.length := List.length_map _
def sameI (a b : List Int) : Bool := decide (a = b)
set_option maxHeartbeats 4000000 in
set_option maxRecDepth 100000 in
/-- Two lists of ints: are they the same? -/
theorem ints_any {w : World} {n0 m0 : Nat} {v u : Value} {k1 k2 : Nat} {a b : List Int} (hA : w.ownsRow n0 3 1 v k1 (isV a)) (hB : w.ownsRow m0 3 1 u k2 (isV b)) (hn : k1 ≤ 1000000) (hn2 : k2 ≤ 1000000) : Calls Try.prog 24 #[v, u] w fun e w' => (∃ bb, e = .returned (.bool bb) ∧ (a = b → bb = true)) ∧ Below w.heap.size w w' := by
  obtain ⟨a1, c1, rfl⟩ := row_slice (own_base hA (Nat.zero_le _))
  obtain ⟨a2, c2, rfl⟩ := row_slice (own_base hB (Nat.zero_le _))
  have l1 : k1 = a.length := by have := hA.1; rw [isV_len] at this; omega
  have l2 : k2 = b.length := by have := hB.1; rw [isV_len] at this; omega
  by_cases hl : k1 = k2
  · subst hl
    have hca : ∀ k x, a[k]? = some x → ∃ g, a1 = some ⟨g, 0, none⟩ ∧ ∀ w', Below w.heap.size w w' → w'.cell? ⟨g, k, none⟩ = some (.int .i64 x) := fun k x hx => by
      have hkl := (List.getElem?_eq_some_iff.1 hx).1
      obtain ⟨g, cap, hv, hg⟩ := row_form (own_base hA (Nat.zero_le _)) (by omega)
      injection hv with e1 _ _
      refine ⟨g, e1, fun w' hb => (hb.cell (p := ⟨g, k, none⟩) hg).trans ?_⟩
      subst e1
      rw [World.ownsRow.cellAt hA k (by omega)]
      unfold isV
      rw [List.getElem?_map, hx]; rfl
    have hcb : ∀ k x, b[k]? = some x → ∃ g, a2 = some ⟨g, 0, none⟩ ∧ ∀ w', Below w.heap.size w w' → w'.cell? ⟨g, k, none⟩ = some (.int .i64 x) := fun k x hx => by
      have hkl := (List.getElem?_eq_some_iff.1 hx).1
      obtain ⟨g, cap, hv, hg⟩ := row_form (own_base hB (Nat.zero_le _)) (by omega)
      injection hv with e1 _ _
      refine ⟨g, e1, fun w' hb => (hb.cell (p := ⟨g, k, none⟩) hg).trans ?_⟩
      subst e1
      rw [World.ownsRow.cellAt hB k (by omega)]
      unfold isV
      rw [List.getElem?_map, hx]; rfl
    have HCA := hide hca
    have HCB := hide hcb
    have HL1 := hide l1
    have HL2 := hide l2
    clear hA hB hca hcb l1 l2
    go_enter Try.func24, Try.ntmps24
    go_wp2
    go_loopw [5] (fun i wr => ∃ k : Nat, k ≤ k1 ∧ i = .int .i64 k ∧ Below w.heap.size w wr) (fun i _ => k1 - (intOf i).toNat)
    case atStart => exact ⟨0, Nat.zero_le _, rfl, Below.refl _ _⟩
    case round =>
      obtain ⟨k, hk, rfl, hb⟩ := hrel
      by_cases hlt : k < k1
      · obtain ⟨x, hx⟩ : ∃ x, a[k]? = some x := ⟨_, List.getElem?_eq_getElem (by have := HL1.out; omega)⟩
        obtain ⟨y, hy⟩ : ∃ y, b[k]? = some y := ⟨_, List.getElem?_eq_getElem (by have := HL2.out; omega)⟩
        obtain ⟨g1, rfl, e1⟩ := HCA.out k x hx
        obtain ⟨g2, rfl, e2⟩ := HCB.out k y hy
        have e1 := e1 _ hb
        have e2 := e2 _ hb
        have HB := hide hb
        have HX := hide hx
        have HY := hide hy
        clear hx hy hb
        by_cases hxy : x = y
        · subst hxy
          go_wp2
          go_region
          all_goals go_wp2
          all_goals exact ⟨⟨k + 1, by omega, by go_num, HB.out.drew⟩, by simp [intOf]; omega⟩
        · have hd : decide (x = y) = false := decide_eq_false hxy
          have HN : Hid (a ≠ b) := fun e => by have h1 := HX.out; rw [e, HY.out] at h1; exact hxy (Option.some.inj h1).symm
          go_wp2
          go_region
          all_goals go_wp2
          all_goals go_ret
          all_goals exact ⟨⟨_, rfl, fun e => absurd e HN.out⟩, HB.out.drew⟩
      · have HB := hide hb
        clear hb
        go_wp2
        go_ret
        exact ⟨⟨_, rfl, fun _ => rfl⟩, HB.out⟩
  · have HN : Hid (a ≠ b) := fun e => hl (by rw [l1, l2, e])
    have hl2 : ¬ (k1 : Int) = (k2 : Int) := by omega
    have hld : decide ((k1 : Int) = (k2 : Int)) = false := decide_eq_false hl2
    clear hA hB l1 l2
    go_enter Try.func24, Try.ntmps24
    go_wp2
    go_ret
    exact ⟨⟨_, rfl, fun e => absurd e HN.out⟩, Below.refl _ _⟩
end Li
end Go.Proofs.Ytgdfmoehbgmfkaa
