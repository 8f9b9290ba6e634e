/- A part of the proofs about package span: what its functions answer, call by call. -/
import Derived.Test.YthbgniclplfpgaaWs
namespace Go.Proofs.Ythbgniclplfpgaa
open Go.RowKit
namespace Sp

/-- A slice that is written out. -/
theorem Sl.litN (W : World) (xs : List (Int × Int)) (hf : allB xs = true) (hl : xs.length ≤ 1000) : Sl (W.alloc (.cells (enc2 xs).toArray 27)) (some ⟨W.heap.size, 0, none⟩) xs.length xs :=
  ⟨rfl, by omega, fun x hx => Fit.of_may (by unfold allB at hf; rw [List.all_eq_true] at hf; exact hf x hx), fun i hi => by
    have hcell : ∀ j, (W.alloc (.cells (enc2 xs).toArray 27)).cell? ⟨W.heap.size, 0 + j, Option.none⟩ = (enc2 xs)[j]? := fun j => by
      rw [Nat.zero_add, cell_of_row _ W.heap.size j (enc2 xs).toArray 27 (0, 0) (heap_alloc_new W _)]
      simp
    refine ⟨W.heap.size, 0, rfl, by simp, ?_, ?_⟩
    · rw [hcell, enc2_get0 xs i hi]
    · rw [Nat.add_assoc, hcell, enc2_get1 xs i hi]⟩

theorem ex1 {ys : List (Int × Int)} (h : setB ys = true) (hm : ∀ i, wi ys i = true ↔ wi [(0, 2), (5, 1), (2, 3)] i = true) : ys = [(0, 6)] :=
  set_ext h (by decide) fun i => by rw [hm]; simp [wi]; omega
theorem ex2 {ys : List (Int × Int)} (h : setB ys = true) (hm : ∀ i, wi ys i = true ↔ wi [(0, 6)] i = true ∧ ¬ wi [(1, 2)] i = true) : ys = [(0, 1), (3, 3)] :=
  set_ext h (by decide) fun i => by rw [hm]; simp [wi]; omega
theorem ex3 {ys : List (Int × Int)} (h : setB ys = true) (hm : ∀ i, wi ys i = true ↔ Has1 (0, 5) i ∧ ¬ wi [(2, 2)] i = true) : ys = [(0, 2), (4, 1)] :=
  set_ext h (by decide) fun i => by rw [hm]; simp [wi, Has1]; omega

set_option maxHeartbeats 2000000 in
theorem awake_any (w : World) : Calls Try.prog 12 #[] w fun e w' => e = .returned (.bool true) ∧ Below w.heap.size w w' := by
  have h1 : Sl (w.alloc (.cells #[.int .i64 0, .int .i64 2, .int .i64 5, .int .i64 1, .int .i64 2, .int .i64 3] 27)) (some ⟨w.heap.size, 0, none⟩) 3 [(0, 2), (5, 1), (2, 3)] := Sl.litN w [(0, 2), (5, 1), (2, 3)] (by decide) (by decide)
  have hj := join_ok (some ⟨w.heap.size, 0, none⟩) 3 3 [(0, 2), (5, 1), (2, 3)] _ h1 (by decide) (by decide)
  go_enter Try.func12, Try.ntmps12
  go_wp2_with fail
  refine hj.mono ?_
  rintro e w1 ⟨v1, ys1, rfl, ho1, _, hs1, hm1, hb1⟩
  obtain rfl := ex1 hs1 hm1
  have B1 := (below_alloc w _).trans (hb1.mono (by simp))
  obtain ⟨a1, c1, rfl, hc1, hsl1⟩ := ho1.sl' (fit_of_set hs1)
  have h2 : Sl (w1.alloc (.cells #[.int .i64 1, .int .i64 2] 27)) (some ⟨w1.heap.size, 0, none⟩) 1 [(1, 2)] := Sl.litN w1 [(1, 2)] (by decide) (by decide)
  have hc := cut_ok a1 (some ⟨w1.heap.size, 0, none⟩) 1 1 c1 1 [(0, 6)] [(1, 2)] _ (hsl1.later (below_alloc _ _)) h2 hs1 (by decide) (by decide)
  clear hj h1 ho1 hm1 hb1
  simp only [List.length_cons, List.length_nil, Nat.zero_add] at *
  go_wp2_with fail
  refine hc.mono ?_
  rintro e w2 ⟨v2, ys2, rfl, ho2, _, hs2, hm2, hb2⟩
  obtain rfl := ex2 hs2 hm2
  have B2 := B1.trans (((below_alloc w1 _).trans (hb2.mono (by simp))).mono B1.size)
  have hsl12 := hsl1.later ((below_alloc w1 _).trans (hb2.mono (by simp)))
  obtain ⟨a2, c2, rfl, hc2, hsl2⟩ := ho2.sl' (fit_of_set hs2)
  have h3 : Sl (w2.alloc (.cells #[.int .i64 2, .int .i64 2] 27)) (some ⟨w2.heap.size, 0, none⟩) 1 [(2, 2)] := Sl.litN w2 [(2, 2)] (by decide) (by decide)
  have hf := fit_ok (some ⟨w2.heap.size, 0, none⟩) 1 1 [(2, 2)] (0, 5) 2 _ h3 (by decide) (by decide) (by decide) (by decide) (by decide)
  clear hc h2 ho2 hm2 hb2 hsl1
  simp only [List.length_cons, List.length_nil, Nat.zero_add] at *
  go_wp2_with fail
  refine hf.mono ?_
  rintro e w3 ⟨ys3, hs3, hm3, rfl, hb3⟩
  obtain rfl := ex3 hs3 hm3
  have B3 := B2.trans (((below_alloc w2 _).trans (hb3.mono (by simp))).mono B2.size)
  have hsl13 := hsl12.later ((below_alloc w2 _).trans (hb3.mono (by simp)))
  have hsl23 := hsl2.later ((below_alloc w2 _).trans (hb3.mono (by simp)))
  have e1 : fitS [(0, 2), (4, 1)] 2 = (0, 2) := by decide
  have e2 : fitE [(0, 2), (4, 1)] 2 = 0 := by decide
  rw [e1, e2]
  clear hf h3 hm3 hs3 hb3 hsl2 hsl12
  simp only
  have bx := below_alloc w3 (.cells #[.int .i64 0, .int .i64 2] 27)
  have bY := below_alloc (w3.alloc (.cells #[.int .i64 0, .int .i64 2] 27)) (.cells #[.int .i64 0, .int .i64 6] 27)
  have bz : Below w3.heap.size w3 ((w3.alloc (.cells #[.int .i64 0, .int .i64 2] 27)).alloc (.cells #[.int .i64 0, .int .i64 6] 27)) := bx.trans (bY.mono (by simp))
  have h4 : Sl ((w3.alloc (.cells #[.int .i64 0, .int .i64 2] 27)).alloc (.cells #[.int .i64 0, .int .i64 6] 27)) (some ⟨w3.heap.size + 1, 0, none⟩) 1 [(0, 6)] := by
    have := Sl.litN (w3.alloc (.cells #[.int .i64 0, .int .i64 2] 27)) [(0, 6)] (by decide) (by decide)
    simpa [enc2] using this
  have hq := same_any a1 (some ⟨w3.heap.size + 1, 0, none⟩) 1 1 c1 1 [(0, 6)] [(0, 6)] _ (hsl13.later bz) h4
  rw [show decide ([((0 : Int), (6 : Int))] = [(0, 6)]) = true by decide] at hq
  clear h4
  go_wp2_with fail
  refine hq.mono ?_
  rintro e w4 ⟨rfl, hb4⟩
  have d0 : w4.cell? ⟨w3.heap.size, 0, none⟩ = some (.int .i64 0) := (hb4.cell (by simp; omega)).trans (by simp)
  have d1 : w4.cell? ⟨w3.heap.size, 1, none⟩ = some (.int .i64 2) := (hb4.cell (by simp; omega)).trans (by simp)
  have hz4 : w3.heap.size + 1 < w4.heap.size := by have := hb4.size; simp at this; omega
  have B4 := bz.trans (hb4.mono (by simp; omega))
  have h5 : Sl (w4.alloc (.cells #[.int .i64 0, .int .i64 1, .int .i64 3, .int .i64 3] 27)) (some ⟨w4.heap.size, 0, none⟩) 2 [(0, 1), (3, 3)] := Sl.litN w4 [(0, 1), (3, 3)] (by decide) (by decide)
  have hq2 := same_any a2 (some ⟨w4.heap.size, 0, none⟩) 2 2 c2 2 [(0, 1), (3, 3)] [(0, 1), (3, 3)] _ ((hsl23.later B4).later (below_alloc _ _)) h5
  rw [show decide ([((0 : Int), (1 : Int)), (3, 3)] = [(0, 1), (3, 3)]) = true by decide] at hq2
  clear h5 hq bx bY bz hb4
  go_wp2_with fail
  refine hq2.mono ?_
  rintro e w5 ⟨rfl, hb5⟩
  have f0 : w5.cell? ⟨w3.heap.size, 0, none⟩ = some (.int .i64 0) := (hb5.cell (by simp; omega)).trans (((below_alloc w4 _).cell (by simp; omega)).trans d0)
  have f1 : w5.cell? ⟨w3.heap.size, 1, none⟩ = some (.int .i64 2) := (hb5.cell (by simp; omega)).trans (((below_alloc w4 _).cell (by simp; omega)).trans d1)
  have hgt : Try.prog.eqGuardType Try.prog.depth 27 = false := by kernel_rfl
  have B5 := hide (B3.trans ((B4.trans (((below_alloc w4 _).trans (hb5.mono (by simp))).mono B4.size)).mono B3.size))
  clear hq2 hb5 d0 d1
  go_wp2
  go_ret
  exact ⟨rfl, B5.out⟩

end Sp
end Go.Proofs.Ythbgniclplfpgaa
