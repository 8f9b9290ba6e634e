/- A part of the proofs about package ssd: what its functions answer, call by call. -/
import Derived.Test.YtdcnjaomocehmaaWr
namespace Go.Proofs.Ytdcnjaomocehmaa
open Go.RowKit
namespace Wi

/-- What a call of a nil device answers. -/
def nilE (k : Int) : Int := if k = 2 ∨ k = 3 ∨ k = 4 then 0 else 2
theorem does_nil (o : OpV) (w : World) (ho : OpOk w (fun _ => False) o) : Calls Try.prog 15 #[.pointer none, .agg o.cells.toArray] w fun e w' => e = .returned (.tuple #[.string { data := #[] }, .int .i64 (nilE o.ask)]) ∧ Below w.heap.size w w' := by
  obtain ⟨ask, pl, n, data, ka, kn, kc, keep⟩ := o
  obtain ⟨⟨q1, q2⟩, q3, q4, q5, q6⟩ := ho
  simp only at q1 q2 q3 q4 q5 q6
  unfold OpV.cells
  simp only
  have B0 := below_alloc w (.cells #[.int .i64 ask, .int .i64 pl, .int .i64 n, .string data, .slice ka kn kc] 36)
  by_cases h0 : ask = 0
  · subst h0
    rw [show nilE 0 = 2 from rfl]
    go_enter Try.func15, Try.ntmps15
    go_wp2_with fail
    refine (write_nil pl data _).mono ?_
    rintro e w1 ⟨rfl, rfl⟩
    go_wp2
    go_ret2
    exact ⟨rfl, B0⟩
  · by_cases h1 : ask = 1
    · subst h1
      rw [show nilE 1 = 2 from rfl]
      go_enter Try.func15, Try.ntmps15
      go_wp2_with fail
      refine ((nil_any _).2.2.2.2.1).mono ?_
      rintro e w1 ⟨rfl, rfl⟩
      go_wp2
      go_ret2
      exact ⟨rfl, B0⟩
    · by_cases h2 : ask = 2
      · subst h2
        rw [show nilE 2 = 0 from rfl]
        go_enter Try.func15, Try.ntmps15
        go_wp2_with fail
        refine (crash_nil _ _).mono ?_
        rintro e w1 ⟨rfl, rfl⟩
        go_wp2
        go_ret2
        exact ⟨rfl, B0⟩
      · by_cases h3 : ask = 3
        · subst h3
          rw [show nilE 3 = 0 from rfl]
          go_enter Try.func15, Try.ntmps15
          go_wp2_with fail
          refine (stop_nil n _).mono ?_
          rintro e w1 ⟨rfl, rfl⟩
          go_wp2
          go_ret2
          exact ⟨rfl, B0⟩
        · by_cases h4 : ask = 4
          · subst h4
            rw [show nilE 4 = 0 from rfl]
            go_enter Try.func15, Try.ntmps15
            go_wp2_with fail
            refine ((nil_any _).2.2.2.1).mono ?_
            rintro e w1 ⟨rfl, rfl⟩
            go_wp2
            go_ret2
            exact ⟨rfl, B0⟩
          · have e1 : nilE ask = 2 := by simp [nilE, h2, h3, h4]
            rw [e1]
            have b0 : (ask == 0) = false := by rw [beq_eq_false_iff_ne]; exact h0
            have b1 : (ask == 1) = false := by rw [beq_eq_false_iff_ne]; exact h1
            have b2 : (ask == 2) = false := by rw [beq_eq_false_iff_ne]; exact h2
            have b3 : (ask == 3) = false := by rw [beq_eq_false_iff_ne]; exact h3
            have b4 : (ask == 4) = false := by rw [beq_eq_false_iff_ne]; exact h4
            clear h0 h1 h2 h3 h4
            go_enter Try.func15, Try.ntmps15
            go_wp2_with fail
            refine (read_nil pl n _).mono ?_
            rintro e w1 ⟨rfl, rfl⟩
            go_wp2
            go_ret2
            exact ⟨rfl, B0⟩

theorem OpOk.later0 {w w' : World} {o : OpV} (h : OpOk w (fun _ => False) o) (hb : Below w.heap.size w w') : OpOk w' (fun _ => False) o := ⟨h.ask, h.place, h.n, h.data, h.keep.later hb⟩
set_option maxHeartbeats 4000000 in
theorem ssdNil_walk (o : OpV) (W : World) (ho : OpOk W (fun _ => False) o) : Calls Try.prog 7 #[.agg o.cells.toArray] W fun e w' => e = .returned (.bool true) ∧ Below W.heap.size W w' := by
  have B0 := below_alloc W (.cells o.cells.toArray 36)
  have B1 := below_alloc (W.alloc (.cells o.cells.toArray 36)) (.cells o.cells.toArray 36)
  have N1 := heap_alloc_new (W.alloc (.cells o.cells.toArray 36)) (.cells o.cells.toArray 36)
  have B2 : Below W.heap.size W ((W.alloc (.cells o.cells.toArray 36)).alloc (.cells o.cells.toArray 36)) := B0.trans (B1.mono B0.size)
  have ho2 := ho.later0 B2
  have hO : Os ((W.alloc (.cells o.cells.toArray 36)).alloc (.cells o.cells.toArray 36)) (some ⟨(W.alloc (.cells o.cells.toArray 36)).heap.size, 0, none⟩) 1 [o] :=
    ⟨rfl, by omega, by intro x hx; rw [List.mem_singleton.1 hx]; exact ho2, fun i x hi => by
      match i, hi with
      | 0, hi =>
        simp at hi
        subst hi
        exact ⟨_, _, rfl, lt_of_block N1, fun j v hv => by rw [cell_of_row _ _ _ _ _ _ N1]; simpa using hv⟩
      | i + 1, hi => simp at hi⟩
  have hf := few_any (cap := 1) hO
  rw [show (W.alloc (.cells o.cells.toArray 36)).heap.size = W.heap.size + 1 by simp] at hf
  have hd := does_nil o _ ho2
  have HB2 := hide B2
  obtain ⟨q1, q2⟩ := ho.ask
  clear hO ho2 B0 B1 B2 N1
  have hask : nilE o.ask = 0 ∧ (o.ask = 2 ∨ o.ask = 3 ∨ o.ask = 4) ∨ nilE o.ask = 2 ∧ o.ask < 2 ∨ nilE o.ask = 2 ∧ 4 < o.ask := by
    unfold nilE
    split
    · exact .inl ⟨rfl, by assumption⟩
    · rcases Int.lt_or_le o.ask 2 with h | h
      · exact .inr (.inl ⟨rfl, h⟩)
      · exact .inr (.inr ⟨rfl, by omega⟩)
  obtain ⟨ask, pl, n, data, ka, kn, kc, keep⟩ := o
  unfold OpV.cells at *
  simp only at *
  have hcW : ((W.alloc (.cells #[.int .i64 ask, .int .i64 pl, .int .i64 n, .string data, .slice ka kn kc] 36)).alloc (.cells #[.int .i64 ask, .int .i64 pl, .int .i64 n, .string data, .slice ka kn kc] 36)).cell? ⟨W.heap.size, 0, none⟩ = some (.int .i64 ask) := by simp
  cases hfb : fewB [⟨ask, pl, n, data, ka, kn, kc, keep⟩] with
  | false =>
    rw [hfb] at hf
    go_enter Try.func7, Try.ntmps7
    go_wp2_with fail
    refine hf.mono ?_
    rintro e w1 ⟨rfl, rfl⟩
    go_wp2_with fail
    refine (awake_any _).mono ?_
    rintro e w2 ⟨rfl, hb⟩
    go_wp2
    go_ret
    exact ⟨rfl, HB2.out.trans (hb.mono HB2.out.size)⟩
  | true =>
    rw [hfb] at hf
    have n1 : ∀ w, _ := fun w => (nil_any w).1
    have n2 : ∀ w, _ := fun w => (nil_any w).2.1
    have n3 : ∀ w, _ := fun w => (nil_any w).2.2.1
    have n4 : ∀ w, _ := fun w => (nil_any w).2.2.2.2.2
    have n5 : ∀ w, _ := fun w => awake_any w
    rcases hask with ⟨he, h2 | h2 | h2⟩ | ⟨he, h2⟩ | ⟨he, h2⟩
    case' inl.inl => subst h2
    case' inl.inr.inl => subst h2
    case' inl.inr.inr => subst h2
    all_goals
      rw [he] at hd
      clear he
      go_enter Try.func7, Try.ntmps7
      go_wp2_with fail
      refine hf.mono ?_
      rintro e w1 ⟨rfl, rfl⟩
      go_wp2_with fail
      refine hd.mono ?_
      rintro e w2 ⟨rfl, hb2⟩
      have hbb := hide (HB2.out.trans (hb2.mono HB2.out.size))
      have hask2 := (hb2.cell (p := ⟨W.heap.size, 0, none⟩) (by simp; omega)).trans hcW
      clear hb2 hd hf hcW
      go_wp2_with fail
      refine (n1 _).mono ?_
      rintro e w' ⟨rfl, rfl⟩
      go_wp2_with fail
      refine (n2 _).mono ?_
      rintro e w' ⟨rfl, rfl⟩
      go_wp2_with fail
      refine (n3 _).mono ?_
      rintro e w' ⟨rfl, rfl⟩
      go_wp2_with fail
      refine (n4 _).mono ?_
      rintro e w' ⟨rfl, rfl⟩
      go_wp2_with fail
      refine (n5 _).mono ?_
      rintro e w5 ⟨rfl, hb5⟩
      go_wp2
      go_ret
      exact ⟨rfl, hbb.out.trans (hb5.mono hbb.out.size)⟩

end Wi
end Go.Proofs.Ytdcnjaomocehmaa
