/- The law BucketNil: a nil bucket has nothing. -/
import Derived.Test.YthnhapjjgaicdaaWv
namespace Go.Proofs.Ythnhapjjgaicdaa
open Go.RowKit
namespace Wi

set_option maxHeartbeats 8000000 in
set_option maxRecDepth 20000 in
theorem bucketNil_walk (o : OpV) (W : World) (ho : OpOk W (fun _ => False) o) : Calls Try.prog 7 #[.agg o.cells.toArray] W fun e w' => e = .returned (.bool true) ∧ Below W.heap.size W w' := by
  have B0 := below_alloc W (.cells o.cells.toArray 41)
  have B1 := below_alloc (W.alloc (.cells o.cells.toArray 41)) (.cells o.cells.toArray 41)
  have N1 := heap_alloc_new (W.alloc (.cells o.cells.toArray 41)) (.cells o.cells.toArray 41)
  have B2 : Below W.heap.size W ((W.alloc (.cells o.cells.toArray 41)).alloc (.cells o.cells.toArray 41)) := B0.trans (B1.mono B0.size)
  have ho2 := ho.later B2
  have hO : Os ((W.alloc (.cells o.cells.toArray 41)).alloc (.cells o.cells.toArray 41)) (some ⟨(W.alloc (.cells o.cells.toArray 41)).heap.size, 0, none⟩) 1 [o] :=
    ⟨rfl, by omega, by intro x hx; rw [List.mem_singleton.1 hx]; exact ho2, fun i x hi => by
      match i, hi with
      | 0, hi =>
        simp at hi
        subst hi
        exact ⟨_, _, rfl, lt_of_block N1, fun j v hv => by rw [cell_of_row _ _ _ _ _ _ N1]; simpa using hv⟩
      | i + 1, hi => simp at hi⟩
  have hf := few_any (cap := 1) hO
  rw [show (W.alloc (.cells o.cells.toArray 41)).heap.size = W.heap.size + 1 by simp] at hf
  have hd := does_nil o _ ho2
  have HB2 := hide B2
  obtain ⟨q1, q2⟩ := ho.ask
  clear hO ho2 B0 B1 B2 N1 ho
  have hask : (nilE o.ask = 2 ∧ 0 ≤ o.ask ∧ o.ask ≤ 4) ∨ (nilE o.ask = 0 ∧ o.ask < 0) ∨ (nilE o.ask = 0 ∧ 4 < o.ask) := by
    unfold nilE
    split <;> omega
  obtain ⟨ask, name, data, pl, n, la, ln, lc, l⟩ := o
  unfold OpV.cells at *
  simp only at *
  have hcW : ((W.alloc (.cells #[.int .i64 ask, .string name, .string data, .int .i64 pl, .int .i64 n, .slice la ln lc] 41)).alloc (.cells #[.int .i64 ask, .string name, .string data, .int .i64 pl, .int .i64 n, .slice la ln lc] 41)).cell? ⟨W.heap.size, 0, none⟩ = some (.int .i64 ask) := by simp
  cases hfb : fewB [⟨ask, name, data, pl, n, la, ln, lc, l⟩] with
  | false =>
    rw [hfb] at hf
    clear hfb
    go_enter Try.func7, Try.ntmps7
    go_wp2_with fail
    refine hf.mono ?_
    rintro e w1 ⟨rfl, rfl⟩
    go_wp2_with fail
    refine (awake_any _).mono ?_
    rintro e w2 ⟨rfl, hb⟩
    go_wp2
    go_ret
    exact ⟨rfl, HB2.out.trans (hb.mono HB2.out.size)⟩
  | true =>
    rw [hfb] at hf
    clear hfb
    have n1 : ∀ w, _ := fun w => (tells_nil w).2.2.2.1
    have n2 : ∀ w, _ := fun w => (tells_nil w).1
    have n3 : ∀ w, _ := fun w => (tells_nil w).2.1
    have n4 : ∀ w, _ := fun w => (tells_nil w).2.2.1
    have n5 : ∀ w, _ := fun w => (tells_nil w).2.2.2.2
    rcases hask with ⟨he, h1, h2⟩ | ⟨he, h1⟩ | ⟨he, h1⟩
    · rw [he] at hd
      clear he
      go_enter Try.func7, Try.ntmps7
      go_wp2_with fail
      refine hf.mono ?_
      rintro e w1 ⟨rfl, rfl⟩
      clear hf
      go_wp2_with fail
      refine hd.mono ?_
      rintro e w2 ⟨rfl, hb2⟩
      have hcw := (hb2.cell (p := ⟨W.heap.size, 0, none⟩) (by simp; omega)).trans hcW
      have hz2 := hb2.size
      have HBB := hide (HB2.out.trans (hb2.mono HB2.out.size))
      have hb3 := below_alloc w2 (.cells #[.string { data := #[] }, .int .i64 0, .slice none 0 0, .int .i64 2] 38)
      have hlt : W.heap.size < w2.heap.size := by simp at hz2; omega
      have hcw2 := (hb3.cell (p := ⟨W.heap.size, 0, none⟩) hlt).trans hcw
      have HBC := hide (HBB.out.trans (hb3.mono HBB.out.size))
      clear hd hb2 hcW hz2 hb3
      go_wp2_with fail
      refine (n1 _).mono ?_
      rintro e w3 ⟨rfl, rfl⟩
      go_wp2_with fail
      refine (n2 _).mono ?_
      rintro e w4 ⟨rfl, rfl⟩
      go_wp2_with fail
      refine (n3 _).mono ?_
      rintro e w5 ⟨rfl, rfl⟩
      go_wp2_with fail
      refine (n4 _).mono ?_
      rintro e w6 ⟨rfl, rfl⟩
      go_wp2_with fail
      refine (n5 _).mono ?_
      rintro e w7 ⟨rfl, rfl⟩
      go_wp2_with fail
      refine (awake_any _).mono ?_
      rintro e w8 ⟨rfl, hb8⟩
      go_wp2
      go_ret
      exact ⟨rfl, HBC.out.trans (hb8.mono HBC.out.size)⟩
    · rw [he] at hd
      clear he
      go_enter Try.func7, Try.ntmps7
      go_wp2_with fail
      refine hf.mono ?_
      rintro e w1 ⟨rfl, rfl⟩
      clear hf
      go_wp2_with fail
      refine hd.mono ?_
      rintro e w2 ⟨rfl, hb2⟩
      have hcw := (hb2.cell (p := ⟨W.heap.size, 0, none⟩) (by simp; omega)).trans hcW
      have hz2 := hb2.size
      have HBB := hide (HB2.out.trans (hb2.mono HB2.out.size))
      have hb3 := below_alloc w2 (.cells #[.string { data := #[] }, .int .i64 0, .slice none 0 0, .int .i64 0] 38)
      have hlt : W.heap.size < w2.heap.size := by simp at hz2; omega
      have hcw2 := (hb3.cell (p := ⟨W.heap.size, 0, none⟩) hlt).trans hcw
      have HBC := hide (HBB.out.trans (hb3.mono HBB.out.size))
      clear hd hb2 hcW hz2 hb3
      go_wp2_with fail
      refine (n1 _).mono ?_
      rintro e w3 ⟨rfl, rfl⟩
      go_wp2_with fail
      refine (n2 _).mono ?_
      rintro e w4 ⟨rfl, rfl⟩
      go_wp2_with fail
      refine (n3 _).mono ?_
      rintro e w5 ⟨rfl, rfl⟩
      go_wp2_with fail
      refine (n4 _).mono ?_
      rintro e w6 ⟨rfl, rfl⟩
      go_wp2_with fail
      refine (n5 _).mono ?_
      rintro e w7 ⟨rfl, rfl⟩
      go_wp2_with fail
      refine (awake_any _).mono ?_
      rintro e w8 ⟨rfl, hb8⟩
      go_wp2
      go_ret
      exact ⟨rfl, HBC.out.trans (hb8.mono HBC.out.size)⟩
    · rw [he] at hd
      clear he
      have d4 : decide (ask ≤ 4) = false := by simp; omega
      go_enter Try.func7, Try.ntmps7
      go_wp2_with fail
      refine hf.mono ?_
      rintro e w1 ⟨rfl, rfl⟩
      clear hf
      go_wp2_with fail
      refine hd.mono ?_
      rintro e w2 ⟨rfl, hb2⟩
      have hcw := (hb2.cell (p := ⟨W.heap.size, 0, none⟩) (by simp; omega)).trans hcW
      have hz2 := hb2.size
      have HBB := hide (HB2.out.trans (hb2.mono HB2.out.size))
      have hb3 := below_alloc w2 (.cells #[.string { data := #[] }, .int .i64 0, .slice none 0 0, .int .i64 0] 38)
      have hlt : W.heap.size < w2.heap.size := by simp at hz2; omega
      have hcw2 := (hb3.cell (p := ⟨W.heap.size, 0, none⟩) hlt).trans hcw
      have HBC := hide (HBB.out.trans (hb3.mono HBB.out.size))
      clear hd hb2 hcW hz2 hb3
      go_wp2_with fail
      refine (n1 _).mono ?_
      rintro e w3 ⟨rfl, rfl⟩
      go_wp2_with fail
      refine (n2 _).mono ?_
      rintro e w4 ⟨rfl, rfl⟩
      go_wp2_with fail
      refine (n3 _).mono ?_
      rintro e w5 ⟨rfl, rfl⟩
      go_wp2_with fail
      refine (n4 _).mono ?_
      rintro e w6 ⟨rfl, rfl⟩
      go_wp2_with fail
      refine (n5 _).mono ?_
      rintro e w7 ⟨rfl, rfl⟩
      go_wp2_with fail
      refine (awake_any _).mono ?_
      rintro e w8 ⟨rfl, hb8⟩
      go_wp2
      go_ret
      exact ⟨rfl, HBC.out.trans (hb8.mono HBC.out.size)⟩

end Wi
end Go.Proofs.Ythnhapjjgaicdaa
