/- Extents that may be, as the code and as the document say. -/
import Derived.Test.YtgdfmoehbgmfkaaLh
namespace Go.Proofs.Ytgdfmoehbgmfkaa
open Go.RowKit
namespace Li
open Wi
/-- No error, or ErrArg. -/
def erB (b : Bool) : Int := if b then 0 else 1
def mayS (a n : Int) : Bool := decide (0 ≤ a ∧ 1 ≤ n ∧ a ≤ 65536 - n)
def mayP (q t : Int) : Bool := decide (0 ≤ q ∧ q < 1099511627776 ∧ 0 ≤ t ∧ t < 1099511627776)
def mayX (a n q t : Int) : Bool := mayS a n && mayP q t
/-- A span, a spot and an extent as values. -/
def vS (a n : Int) : Value := .agg #[.int .i64 a, .int .i64 n]
def vX (a n q t : Int) : Value := .agg #[.int .i64 a, .int .i64 n, .int .i64 q, .int .i64 t]
set_option maxHeartbeats 1000000 in
theorem spanmay_any (a n : Int) (ha : I64 a) (hn : I64 n) (w : World) : Calls Try.prog 65 #[.agg #[.int .i64 a, .int .i64 n]] w fun e w' => e = .returned (.int .i64 (erB (mayS a n))) ∧ Below w.heap.size w w' := by
  obtain ⟨a1, a2⟩ := ha
  obtain ⟨n1, n2⟩ := hn
  have hb := hide (below_alloc w (.cells #[.int .i64 a, .int .i64 n] 49))
  by_cases h1 : a < 0
  · have e1 : erB (mayS a n) = 1 := by unfold erB mayS; rw [if_neg]; simp; omega
    rw [e1]
    clear e1
    go_enter Try.func65, Try.ntmps65
    go_wp2
    go_ret
    exact ⟨rfl, hb.out⟩
  · by_cases h2 : n < 1
    · have e1 : erB (mayS a n) = 1 := by unfold erB mayS; rw [if_neg]; simp; omega
      rw [e1]
      clear e1
      go_enter Try.func65, Try.ntmps65
      go_wp2
      go_ret
      exact ⟨rfl, hb.out⟩
    · by_cases h3 : 65536 - n < a
      · have e1 : erB (mayS a n) = 1 := by unfold erB mayS; rw [if_neg]; simp; omega
        rw [e1]
        clear e1
        go_enter Try.func65, Try.ntmps65
        go_wp2
        go_ret
        exact ⟨rfl, hb.out⟩
      · have e1 : erB (mayS a n) = 0 := by unfold erB mayS; rw [if_pos]; simp; omega
        rw [e1]
        clear e1
        go_enter Try.func65, Try.ntmps65
        go_wp2
        go_ret
        exact ⟨rfl, hb.out⟩
set_option maxHeartbeats 1000000 in
theorem spotmay_any (q t : Int) (w : World) : Calls Try.prog 66 #[.agg #[.int .i64 q, .int .i64 t]] w fun e w' => e = .returned (.int .i64 (erB (mayP q t))) ∧ Below w.heap.size w w' := by
  have hb := hide (below_alloc w (.cells #[.int .i64 q, .int .i64 t] 47))
  by_cases h1 : q < 0
  · have e1 : erB (mayP q t) = 1 := by unfold erB mayP; rw [if_neg]; simp; omega
    rw [e1]
    clear e1
    go_enter Try.func66, Try.ntmps66
    go_wp2
    go_ret
    exact ⟨rfl, hb.out⟩
  · by_cases h2 : 1099511627776 ≤ q
    · have e1 : erB (mayP q t) = 1 := by unfold erB mayP; rw [if_neg]; simp; omega
      rw [e1]
      clear e1
      go_enter Try.func66, Try.ntmps66
      go_wp2
      go_ret
      exact ⟨rfl, hb.out⟩
    · by_cases h3 : t < 0
      · have e1 : erB (mayP q t) = 1 := by unfold erB mayP; rw [if_neg]; simp; omega
        rw [e1]
        clear e1
        go_enter Try.func66, Try.ntmps66
        go_wp2
        go_ret
        exact ⟨rfl, hb.out⟩
      · by_cases h4 : 1099511627776 ≤ t
        · have e1 : erB (mayP q t) = 1 := by unfold erB mayP; rw [if_neg]; simp; omega
          rw [e1]
          clear e1
          go_enter Try.func66, Try.ntmps66
          go_wp2
          go_ret
          exact ⟨rfl, hb.out⟩
        · have e1 : erB (mayP q t) = 0 := by unfold erB mayP; rw [if_pos]; simp; omega
          rw [e1]
          clear e1
          go_enter Try.func66, Try.ntmps66
          go_wp2
          go_ret
          exact ⟨rfl, hb.out⟩
set_option maxHeartbeats 1000000 in
theorem exmay_any (a n q t : Int) (ha : I64 a) (hn : I64 n) (w : World) : Calls Try.prog 56 #[vX a n q t] w fun e w' => e = .returned (.int .i64 (erB (mayX a n q t))) ∧ Below w.heap.size w w' := by
  have hb := below_alloc w (.cells #[.int .i64 a, .int .i64 n, .int .i64 q, .int .i64 t] 51)
  have hc := spanmay_any a n ha hn (w.alloc (.cells #[.int .i64 a, .int .i64 n, .int .i64 q, .int .i64 t] 51))
  have HB := hide hb
  unfold vX
  cases h1 : mayS a n with
  | false =>
    have e1 : erB (mayX a n q t) = 1 := by unfold mayX; rw [h1]; rfl
    rw [h1] at hc
    rw [e1]
    have e2 : erB false = 1 := rfl
    rw [e2] at hc
    clear e1 e2 hb h1
    go_enter Try.func56, Try.ntmps56
    go_wp2_with fail
    refine hc.mono ?_
    rintro e w1 ⟨rfl, hb1⟩
    have HB1 := hide (HB.out.trans (hb1.mono HB.out.size))
    clear hc hb1
    go_wp2
    go_ret
    exact ⟨rfl, HB1.out⟩
  | true =>
    have e1 : mayX a n q t = mayP q t := by unfold mayX; rw [h1]; rfl
    rw [h1] at hc
    rw [e1]
    have e2 : erB true = 0 := rfl
    rw [e2] at hc
    clear e1 e2 h1
    go_enter Try.func56, Try.ntmps56
    go_wp2_with fail
    refine hc.mono ?_
    rintro e w1 ⟨rfl, hb1⟩
    have c2 : w1.cell? ⟨w.heap.size, 2, none⟩ = some (.int .i64 q) := (hb1.cell (p := ⟨w.heap.size, 2, none⟩) (by simp)).trans (by rw [cell_of_row _ _ _ _ _ _ (heap_alloc_new w _)]; rfl)
    have c3 : w1.cell? ⟨w.heap.size, 3, none⟩ = some (.int .i64 t) := (hb1.cell (p := ⟨w.heap.size, 3, none⟩) (by simp)).trans (by rw [cell_of_row _ _ _ _ _ _ (heap_alloc_new w _)]; rfl)
    have hc2 := spotmay_any q t w1
    have HB1 := hide (HB.out.trans (hb1.mono HB.out.size))
    clear hc hb1 hb
    go_wp2_with fail
    refine hc2.mono ?_
    rintro e w2 ⟨rfl, hb2⟩
    have HB2 := hide (HB1.out.trans (hb2.mono HB1.out.size))
    clear hc2 hb2
    go_wp2
    go_ret
    exact ⟨rfl, HB2.out⟩

set_option maxHeartbeats 4000000 in
theorem refspan_any (a n : Int) (w : World) : Calls Try.prog 54 #[.agg #[.int .i64 a, .int .i64 n]] w fun e w' => e = .returned (.bool (mayS a n)) ∧ Below w.heap.size w w' := by
  have hb := hide (below_alloc w (.cells #[.int .i64 a, .int .i64 n] 49))
  by_cases hh : 0 ≤ a ∧ a ≤ 65536 ∧ 1 ≤ n ∧ n ≤ 65536
  · obtain ⟨h1, h2, h3, h4⟩ := hh
    go_enter Try.func54, Try.ntmps54
    go_wp2
    all_goals go_ret
    all_goals refine ⟨ret_bool (Bool.eq_iff_iff.2 ?_), hb.out⟩
    all_goals unfold mayS
    all_goals simp only [decide_eq_true_eq]
    all_goals omega
  · have hf : mayS a n = false := decide_eq_false (by omega)
    rw [hf]
    by_cases h1 : 0 ≤ a
    · by_cases h2 : a ≤ 65536
      · by_cases h3 : 1 ≤ n
        · have h4 : ¬ n ≤ 65536 := by omega
          clear hf hh
          go_enter Try.func54, Try.ntmps54
          go_wp2
          go_ret
          exact ⟨rfl, hb.out⟩
        · clear hf hh
          go_enter Try.func54, Try.ntmps54
          go_wp2
          go_ret
          exact ⟨rfl, hb.out⟩
      · clear hf hh
        go_enter Try.func54, Try.ntmps54
        go_wp2
        go_ret
        exact ⟨rfl, hb.out⟩
    · clear hf hh
      go_enter Try.func54, Try.ntmps54
      go_wp2
      go_ret
      exact ⟨rfl, hb.out⟩
set_option maxHeartbeats 4000000 in
theorem refplace_any (q t : Int) (w : World) : Calls Try.prog 55 #[.agg #[.int .i64 q, .int .i64 t]] w fun e w' => e = .returned (.bool (mayP q t)) ∧ Below w.heap.size w w' := by
  have hb := hide (below_alloc w (.cells #[.int .i64 q, .int .i64 t] 47))
  go_enter Try.func55, Try.ntmps55
  go_wp2
  all_goals go_ret
  all_goals refine ⟨ret_bool (Bool.eq_iff_iff.2 ?_), hb.out⟩
  all_goals unfold mayP
  all_goals simp only [decide_eq_true_eq, Bool.false_eq_true, false_iff]
  all_goals omega
set_option maxHeartbeats 4000000 in
theorem refx_any (a n q t : Int) (w : World) : Calls Try.prog 39 #[vX a n q t] w fun e w' => e = .returned (.bool (mayX a n q t)) ∧ Below w.heap.size w w' := by
  have hb := below_alloc w (.cells #[.int .i64 a, .int .i64 n, .int .i64 q, .int .i64 t] 51)
  have hc := refspan_any a n (w.alloc (.cells #[.int .i64 a, .int .i64 n, .int .i64 q, .int .i64 t] 51))
  have HB := hide hb
  unfold vX
  cases h1 : mayS a n with
  | false =>
    have e1 : mayX a n q t = false := by unfold mayX; rw [h1]; rfl
    rw [h1] at hc
    rw [e1]
    clear e1 hb h1
    go_enter Try.func39, Try.ntmps39
    go_wp2_with fail
    refine hc.mono ?_
    rintro e w1 ⟨rfl, hb1⟩
    have HB1 := hide (HB.out.trans (hb1.mono HB.out.size))
    clear hc hb1
    go_wp2
    go_ret
    exact ⟨rfl, HB1.out⟩
  | true =>
    have e1 : mayX a n q t = mayP q t := by unfold mayX; rw [h1]; rfl
    rw [h1] at hc
    rw [e1]
    clear e1 h1
    go_enter Try.func39, Try.ntmps39
    go_wp2_with fail
    refine hc.mono ?_
    rintro e w1 ⟨rfl, hb1⟩
    have c2 : w1.cell? ⟨w.heap.size, 2, none⟩ = some (.int .i64 q) := (hb1.cell (p := ⟨w.heap.size, 2, none⟩) (by simp)).trans (by rw [cell_of_row _ _ _ _ _ _ (heap_alloc_new w _)]; rfl)
    have c3 : w1.cell? ⟨w.heap.size, 3, none⟩ = some (.int .i64 t) := (hb1.cell (p := ⟨w.heap.size, 3, none⟩) (by simp)).trans (by rw [cell_of_row _ _ _ _ _ _ (heap_alloc_new w _)]; rfl)
    have hc2 := refplace_any q t w1
    have HB1 := hide (HB.out.trans (hb1.mono HB.out.size))
    clear hc hb1 hb
    go_wp2_with fail
    refine hc2.mono ?_
    rintro e w2 ⟨rfl, hb2⟩
    have HB2 := hide (HB1.out.trans (hb2.mono HB1.out.size))
    clear hc2 hb2
    go_wp2
    go_ret
    exact ⟨rfl, HB2.out⟩
def Ix.may (x : Ix) : Bool := mayX x.a x.n x.q x.t
set_option maxHeartbeats 8000000 in
set_option maxRecDepth 100000 in
/-- Whether each extent may be. -/
theorem all_any {w : World} {a : Option Addr} {n cap : Nat} {xs : List Ix} (hE : Ex w a n xs) : Calls Try.prog 18 #[.slice a n cap] w fun e w' => e = .returned (.bool (xs.all Ix.may)) ∧ Below w.heap.size w w' := by
  have HE := hide hE
  have HL := hide hE.len
  have hm := hE.most
  clear hE
  go_enter Try.func18, Try.ntmps18
  go_wp2
  go_loopw [3] (fun i wr => ∃ k : Nat, k ≤ n ∧ i = .int .i64 k ∧ (∀ j x, j < k → xs[j]? = some x → x.may = true) ∧ Below w.heap.size w wr) (fun i _ => n - (intOf i).toNat)
  case atStart => exact ⟨0, Nat.zero_le _, rfl, fun j o h => by omega, Below.refl _ _⟩
  case round =>
    obtain ⟨k, hk, rfl, hall, hb⟩ := hrel
    by_cases hlt : k < n
    · obtain ⟨x, hx⟩ : ∃ x, xs[k]? = some x := ⟨_, List.getElem?_eq_getElem (by have := HL.out; omega)⟩
      obtain ⟨g, off, rfl, hg, c0, c1, c2, c3⟩ := (HE.out.later hb).cells k x hx
      have HB := hide hb
      have HX := hide hx
      have HA := hide hall
      have hc : ∀ w, Calls Try.prog 39 #[.agg #[.int .i64 x.a, .int .i64 x.n, .int .i64 x.q, .int .i64 x.t]] w fun e w' => e = .returned (.bool x.may) ∧ Below w.heap.size w w' := fun w => refx_any x.a x.n x.q x.t w
      cases hmx : x.may with
      | false =>
        have HF : Hid (xs.all Ix.may = false) := by
          show _ = _
          cases hq : xs.all Ix.may with
          | false => rfl
          | true => have := List.all_eq_true.1 hq x (List.mem_of_getElem? hx); rw [hmx] at this; cases this
        rw [hmx] at hc
        clear hmx hx hall hb
        go_wp2_with (go_at_call 39; refine (hc _).mono ?_; rintro e w1 ⟨rfl, hb1⟩)
        go_ret
        exact ⟨by rw [HF.out]; rfl, HB.out.trans (hb1.mono HB.out.size)⟩
      | true =>
        rw [hmx] at hc
        have HM := hide hmx
        clear hmx hx hall hb
        go_wp2_with (go_at_call 39; refine (hc _).mono ?_; rintro e w1 ⟨rfl, hb1⟩)
        go_roundw
        case rel => exact ⟨k + 1, by omega, by go_num, fun j y hj hy => by
          by_cases e : j = k
          · subst e
            have := HX.out
            rw [hy] at this
            injection this with this
            rw [this]
            exact HM.out
          · exact HA.out j y (by omega) hy, HB.out.trans (hb1.mono HB.out.size)⟩
        case measure => simp [intOf]; omega
    · obtain rfl : k = n := by omega
      have HB := hide hb
      have HF : Hid (xs.all Ix.may = true) := List.all_eq_true.2 fun x hx => by
        obtain ⟨j, hj, rfl⟩ := List.mem_iff_getElem.1 hx
        exact hall j _ (by have := HL.out; omega) (List.getElem?_eq_getElem hj)
      clear hall hb
      go_wp2
      go_ret
      exact ⟨by rw [HF.out]; rfl, HB.out⟩
end Li
end Go.Proofs.Ytgdfmoehbgmfkaa
