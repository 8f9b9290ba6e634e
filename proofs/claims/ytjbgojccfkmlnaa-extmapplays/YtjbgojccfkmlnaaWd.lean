/- Extents as values: which may be, where they end, which part of them is where, which goes on in which. -/
import Derived.Test.YtjbgojccfkmlnaaWc
import Derived.Test.YtjbgojccfkmlnaaMc
import Derived.Laws.Externs
namespace Go.Proofs.Ytjbgojccfkmlnaa
open Go.RowKit
namespace Wi

def I64 (a : Int) : Prop := -9223372036854775808 ≤ a ∧ a ≤ 9223372036854775807
/-- No error, or ErrArg. -/
def erB (b : Bool) : Int := if b then 0 else 1
def mayS (a n : Int) : Bool := decide (0 ≤ a ∧ 1 ≤ n ∧ a ≤ 65536 - n)
def mayP (q t : Int) : Bool := decide (0 ≤ q ∧ q < 1099511627776 ∧ 0 ≤ t ∧ t < 1099511627776)
def mayX (a n q t : Int) : Bool := mayS a n && mayP q t
/-- A span, a spot and an extent as values. -/
def vS (a n : Int) : Value := .agg #[.int .i64 a, .int .i64 n]
def vX (a n q t : Int) : Value := .agg #[.int .i64 a, .int .i64 n, .int .i64 q, .int .i64 t]
theorem end_any (a n : Int) (h1 : I64 (a + n)) (w : World) : Calls Try.prog 43 #[.agg #[.int .i64 a, .int .i64 n]] w fun e w' => e = .returned (.int .i64 (a + n)) ∧ Below w.heap.size w w' := by
  obtain ⟨b1, b2⟩ := h1
  have hb := hide (below_alloc w (.cells #[.int .i64 a, .int .i64 n] 38))
  go_enter Try.func43, Try.ntmps43
  go_wp2
  go_ret
  exact ⟨rfl, hb.out⟩
set_option maxHeartbeats 1000000 in
theorem spanmay_any (a n : Int) (ha : I64 a) (hn : I64 n) (w : World) : Calls Try.prog 40 #[.agg #[.int .i64 a, .int .i64 n]] w fun e w' => e = .returned (.int .i64 (erB (mayS a n))) ∧ Below w.heap.size w w' := by
  obtain ⟨a1, a2⟩ := ha
  obtain ⟨n1, n2⟩ := hn
  have hb := hide (below_alloc w (.cells #[.int .i64 a, .int .i64 n] 38))
  by_cases h1 : a < 0
  · have e1 : erB (mayS a n) = 1 := by unfold erB mayS; rw [if_neg]; simp; omega
    rw [e1]
    clear e1
    go_enter Try.func40, Try.ntmps40
    go_wp2
    go_ret
    exact ⟨rfl, hb.out⟩
  · by_cases h2 : n < 1
    · have e1 : erB (mayS a n) = 1 := by unfold erB mayS; rw [if_neg]; simp; omega
      rw [e1]
      clear e1
      go_enter Try.func40, Try.ntmps40
      go_wp2
      go_ret
      exact ⟨rfl, hb.out⟩
    · by_cases h3 : 65536 - n < a
      · have e1 : erB (mayS a n) = 1 := by unfold erB mayS; rw [if_neg]; simp; omega
        rw [e1]
        clear e1
        go_enter Try.func40, Try.ntmps40
        go_wp2
        go_ret
        exact ⟨rfl, hb.out⟩
      · have e1 : erB (mayS a n) = 0 := by unfold erB mayS; rw [if_pos]; simp; omega
        rw [e1]
        clear e1
        go_enter Try.func40, Try.ntmps40
        go_wp2
        go_ret
        exact ⟨rfl, hb.out⟩
set_option maxHeartbeats 1000000 in
theorem spotmay_any (q t : Int) (w : World) : Calls Try.prog 42 #[.agg #[.int .i64 q, .int .i64 t]] w fun e w' => e = .returned (.int .i64 (erB (mayP q t))) ∧ Below w.heap.size w w' := by
  have hb := hide (below_alloc w (.cells #[.int .i64 q, .int .i64 t] 32))
  by_cases h1 : q < 0
  · have e1 : erB (mayP q t) = 1 := by unfold erB mayP; rw [if_neg]; simp; omega
    rw [e1]
    clear e1
    go_enter Try.func42, Try.ntmps42
    go_wp2
    go_ret
    exact ⟨rfl, hb.out⟩
  · by_cases h2 : 1099511627776 ≤ q
    · have e1 : erB (mayP q t) = 1 := by unfold erB mayP; rw [if_neg]; simp; omega
      rw [e1]
      clear e1
      go_enter Try.func42, Try.ntmps42
      go_wp2
      go_ret
      exact ⟨rfl, hb.out⟩
    · by_cases h3 : t < 0
      · have e1 : erB (mayP q t) = 1 := by unfold erB mayP; rw [if_neg]; simp; omega
        rw [e1]
        clear e1
        go_enter Try.func42, Try.ntmps42
        go_wp2
        go_ret
        exact ⟨rfl, hb.out⟩
      · by_cases h4 : 1099511627776 ≤ t
        · have e1 : erB (mayP q t) = 1 := by unfold erB mayP; rw [if_neg]; simp; omega
          rw [e1]
          clear e1
          go_enter Try.func42, Try.ntmps42
          go_wp2
          go_ret
          exact ⟨rfl, hb.out⟩
        · have e1 : erB (mayP q t) = 0 := by unfold erB mayP; rw [if_pos]; simp; omega
          rw [e1]
          clear e1
          go_enter Try.func42, Try.ntmps42
          go_wp2
          go_ret
          exact ⟨rfl, hb.out⟩
set_option maxHeartbeats 1000000 in
theorem may_any (a n q t : Int) (ha : I64 a) (hn : I64 n) (w : World) : Calls Try.prog 21 #[vX a n q t] w fun e w' => e = .returned (.int .i64 (erB (mayX a n q t))) ∧ Below w.heap.size w w' := by
  have hb := below_alloc w (.cells #[.int .i64 a, .int .i64 n, .int .i64 q, .int .i64 t] 40)
  have hc := spanmay_any a n ha hn (w.alloc (.cells #[.int .i64 a, .int .i64 n, .int .i64 q, .int .i64 t] 40))
  have HB := hide hb
  unfold vX
  cases h1 : mayS a n with
  | false =>
    have e1 : erB (mayX a n q t) = 1 := by unfold mayX; rw [h1]; rfl
    rw [h1] at hc
    rw [e1]
    have e2 : erB false = 1 := rfl
    rw [e2] at hc
    clear e1 e2 hb h1
    go_enter Try.func21, Try.ntmps21
    go_wp2_with fail
    refine hc.mono ?_
    rintro e w1 ⟨rfl, hb1⟩
    have HB1 := hide (HB.out.trans (hb1.mono HB.out.size))
    clear hc hb1
    go_wp2
    go_ret
    exact ⟨rfl, HB1.out⟩
  | true =>
    have e1 : mayX a n q t = mayP q t := by unfold mayX; rw [h1]; rfl
    rw [h1] at hc
    rw [e1]
    have e2 : erB true = 0 := rfl
    rw [e2] at hc
    clear e1 e2 h1
    go_enter Try.func21, Try.ntmps21
    go_wp2_with fail
    refine hc.mono ?_
    rintro e w1 ⟨rfl, hb1⟩
    have c2 : w1.cell? ⟨w.heap.size, 2, none⟩ = some (.int .i64 q) := (hb1.cell (p := ⟨w.heap.size, 2, none⟩) (by simp)).trans (by rw [cell_of_row _ _ _ _ _ _ (heap_alloc_new w _)]; rfl)
    have c3 : w1.cell? ⟨w.heap.size, 3, none⟩ = some (.int .i64 t) := (hb1.cell (p := ⟨w.heap.size, 3, none⟩) (by simp)).trans (by rw [cell_of_row _ _ _ _ _ _ (heap_alloc_new w _)]; rfl)
    have hc2 := spotmay_any q t w1
    have HB1 := hide (HB.out.trans (hb1.mono HB.out.size))
    clear hc hb1 hb
    go_wp2_with fail
    refine hc2.mono ?_
    rintro e w2 ⟨rfl, hb2⟩
    have HB2 := hide (HB1.out.trans (hb2.mono HB1.out.size))
    clear hc2 hb2
    go_wp2
    go_ret
    exact ⟨rfl, HB2.out⟩
set_option maxHeartbeats 1000000 in
theorem part_any (a n q t s m : Int) (h1 : I64 (t + s)) (h2 : I64 (t + s - a)) (w : World) : Calls Try.prog 48 #[.agg #[.int .i64 a, .int .i64 n, .int .i64 q, .int .i64 t], .agg #[.int .i64 s, .int .i64 m]] w fun e w' => e = .returned (.agg #[.int .i64 s, .int .i64 m, .int .i64 q, .int .i64 (t + s - a)]) ∧ Below w.heap.size w w' := by
  obtain ⟨a1, a2⟩ := h1
  obtain ⟨b1, b2⟩ := h2
  go_enter Try.func48, Try.ntmps48
  go_wp2
  refine bodyPost_ret (v := .agg #[.int .i64 s, .int .i64 m, .int .i64 q, .int .i64 (t + s - a)]) (by simp [results, Try.results48, go_sem]) rfl ⟨rfl, ?_⟩
  have B0 := below_alloc w (.cells #[.int .i64 a, .int .i64 n, .int .i64 q, .int .i64 t] 40)
  have B1 := B0.alloc B0.size (.cells #[.int .i64 s, .int .i64 m] 38)
  exact B1.alloc B1.size _

end Wi
end Go.Proofs.Ytjbgojccfkmlnaa
