/- A nil table has nothing: the law, walked. -/
import Derived.Test.YtgdfmoehbgmfkaaLh
namespace Go.Proofs.Ytgdfmoehbgmfkaa
open Go.RowKit
namespace Li
open Wi
theorem results_get (tmps : Array Value) (w : World) (g : Nat) (a b c : Int) (e : Value) (hp : tmps.getD 4 undef = .pointer (some ⟨g, 0, none⟩)) (he : tmps.getD 5 undef = e) (hg : w.heap[g]? = some (.cells #[.int .i64 a, .int .i64 b, .int .i64 c] 58 (0, 0))) :
    (results Try.f25 tmps).run Try.prog w = .ok (.tuple #[.agg #[.int .i64 a, .int .i64 b, .int .i64 c], e]) w := by
  have hp' : tmps[4]?.getD undef = .pointer (some ⟨g, 0, none⟩) := by simpa using hp
  have he' : tmps[5]?.getD undef = e := by simpa using he
  simp [results, hp', he', asAddr, run_loadVar_row w g 58 58 #[.int .i64 a, .int .i64 b, .int .i64 c] (0, 0) _ hg Try.underlying58 rfl (by kernel_rfl)]
set_option maxHeartbeats 1000000 in
theorem get_nil (k : Int) (w : World) : Calls Try.prog 25 #[.pointer none, .int .i64 k] w fun e w' => e = .returned (.tuple #[.agg #[.int .i64 0, .int .i64 0, .int .i64 0], .int .i64 2]) ∧ Below w.heap.size w w' := by
  have hb := hide (below_alloc w (.cells #[.int .i64 0, .int .i64 0, .int .i64 0] 58))
  go_enter Try.func25, Try.ntmps25
  go_wp2
  refine bodyPost_ret (results_get _ _ w.heap.size 0 0 0 _ rfl rfl (heap_alloc_new _ _)) rfl ?_
  exact ⟨rfl, hb.out⟩
theorem drop_nil (k : Int) (w : World) : Calls Try.prog 29 #[.pointer none, .int .i64 k] w fun e w' => e = .returned (.int .i64 2) ∧ Below w.heap.size w w' := by
  have h := get_nil k w
  go_enter Try.func29, Try.ntmps29
  go_wp2_with (go_at_call 25; refine h.mono ?_; rintro e w' ⟨rfl, hb⟩)
  go_ret
  exact ⟨rfl, hb.alloc hb.size _⟩
set_option maxHeartbeats 1000000 in
theorem add_nil (v : Value) (w : World) : Calls Try.prog 28 #[.pointer none, v] w fun e w' => e = .returned (.int .i64 2) ∧ w' = w := by
  go_enter Try.func28, Try.ntmps28
  go_wp2
  go_ret
  exact ⟨rfl, rfl⟩
set_option maxHeartbeats 1000000 in
theorem change_nil (v u : Value) (w : World) : Calls Try.prog 21 #[.pointer none, v, u] w fun e w' => e = .returned (.int .i64 2) ∧ w' = w := by
  go_enter Try.func21, Try.ntmps21
  go_wp2
  go_ret
  exact ⟨rfl, rfl⟩
set_option maxHeartbeats 1000000 in
theorem sum_nil (w : World) : Calls Try.prog 15 #[.pointer none] w fun e w' => e = .returned (.tuple #[.int .i64 0, .int .i64 0]) ∧ w' = w := by
  have h := rows_nil
  go_enter Try.func15, Try.ntmps15
  go_wp2_with (go_at_call 17; refine (h _).mono ?_; rintro e w' ⟨rfl, rfl⟩)
  refine wp_loop_rounds 1 ?_
  rw [rounds_succ]
  go_wp2
  go_ret2
  exact ⟨rfl, rfl⟩
set_option maxHeartbeats 1000000 in
theorem victims_nil (w : World) : Calls Try.prog 23 #[.pointer none, .int .i64 50] w fun e w' => e = .returned (.slice none 0 0) ∧ w' = w := by
  have h := rows_nil
  have hs := sort_none
  have hmin : ∀ w, (Builtin.min_ #[3, 3] 3 #[.int .i64 50, .int .i64 101]).run Try.prog w = .ok (.int .i64 50) w := fun w => rfl
  have hmax : ∀ w, (Builtin.max_ #[3, 3] 3 #[.int .i64 0, .int .i64 50]).run Try.prog w = .ok (.int .i64 50) w := fun w => rfl
  go_enter Try.func23, Try.ntmps23
  go_wp2_with (go_at_call 17; refine (h _).mono ?_; rintro e w' ⟨rfl, rfl⟩)
  refine wp_loop_rounds 1 ?_
  rw [rounds_succ]
  go_wp2_with (go_at_call 46; refine (hs _).mono ?_; rintro e w' ⟨rfl, rfl⟩)
  refine wp_loop_rounds 1 ?_
  rw [rounds_succ]
  go_wp2
  go_ret
  exact ⟨rfl, rfl⟩

theorem os_one (w : World) (o : OpV) (t : TypeId) (hb : o.rn ≤ 9223372036854775807 ∧ o.mn ≤ 9223372036854775807 ∧ o.ln ≤ 9223372036854775807) :
    Os (w.alloc (.cells #[.int .i64 o.ask, .int .i64 o.seq, .slice o.ra o.rn o.rcap, .slice o.ma o.mn o.mcap, .slice o.la o.ln o.lcap] t)) (some ⟨w.heap.size, 0, none⟩) 1 [o] := by
  refine ⟨rfl, by omega, fun x hx => by simp at hx; subst hx; exact hb, fun i x hi => ?_⟩
  match i, hi with
  | 0, hi =>
    cases hi
    refine ⟨w.heap.size, 0, rfl, by simp, ?_, ?_, ?_, ?_, ?_⟩ <;> (rw [cell_of_row _ _ _ _ _ _ (heap_alloc_new w _)]; rfl)
set_option maxHeartbeats 8000000 in
set_option maxRecDepth 100000 in
theorem nil_walk (o : OpV) (w : World) (hb : o.rn ≤ 9223372036854775807 ∧ o.mn ≤ 9223372036854775807 ∧ o.ln ≤ 9223372036854775807) :
    Calls Try.prog 8 #[.agg #[.int .i64 o.ask, .int .i64 o.seq, .slice o.ra o.rn o.rcap, .slice o.ma o.mn o.mcap, .slice o.la o.ln o.lcap]] w fun e w' => e = .returned (.bool true) ∧ Below w.heap.size w w' := by
  have hf := few_any (cap := 1) (os_one (w.alloc (.cells #[.int .i64 o.ask, .int .i64 o.seq, .slice o.ra o.rn o.rcap, .slice o.ma o.mn o.mcap, .slice o.la o.ln o.lcap] 33)) o 33 hb)
  have HB := hide ((below_alloc w (.cells #[.int .i64 o.ask, .int .i64 o.seq, .slice o.ra o.rn o.rcap, .slice o.ma o.mn o.mcap, .slice o.la o.ln o.lcap] 33)).alloc (by simp) (.cells #[.int .i64 o.ask, .int .i64 o.seq, .slice o.ra o.rn o.rcap, .slice o.ma o.mn o.mcap, .slice o.la o.ln o.lcap] 33))
  have hblk0 := (heap_alloc_new w (.cells #[.int .i64 o.ask, .int .i64 o.seq, .slice o.ra o.rn o.rcap, .slice o.ma o.mn o.mcap, .slice o.la o.ln o.lcap] 33))
  have HBLK : Hid (∀ w', Below ((w.alloc (.cells #[.int .i64 o.ask, .int .i64 o.seq, .slice o.ra o.rn o.rcap, .slice o.ma o.mn o.mcap, .slice o.la o.ln o.lcap] 33)).alloc (.cells #[.int .i64 o.ask, .int .i64 o.seq, .slice o.ra o.rn o.rcap, .slice o.ma o.mn o.mcap, .slice o.la o.ln o.lcap] 33)).heap.size ((w.alloc (.cells #[.int .i64 o.ask, .int .i64 o.seq, .slice o.ra o.rn o.rcap, .slice o.ma o.mn o.mcap, .slice o.la o.ln o.lcap] 33)).alloc (.cells #[.int .i64 o.ask, .int .i64 o.seq, .slice o.ra o.rn o.rcap, .slice o.ma o.mn o.mcap, .slice o.la o.ln o.lcap] 33)) w' → w'.heap[w.heap.size]? = some (.cells #[.int .i64 o.ask, .int .i64 o.seq, .slice o.ra o.rn o.rcap, .slice o.ma o.mn o.mcap, .slice o.la o.ln o.lcap] 33 (0, 0))) := fun w' h => by
    refine (h.block w.heap.size (by simp; omega)).trans ?_
    refine ((below_alloc _ _).block w.heap.size (by simp)).trans hblk0
  rw [World.size_alloc] at hf
  obtain ⟨W2, hW2⟩ : ∃ W2, W2 = ((w.alloc (.cells #[.int .i64 o.ask, .int .i64 o.seq, .slice o.ra o.rn o.rcap, .slice o.ma o.mn o.mcap, .slice o.la o.ln o.lcap] 33)).alloc (.cells #[.int .i64 o.ask, .int .i64 o.seq, .slice o.ra o.rn o.rcap, .slice o.ma o.mn o.mcap, .slice o.la o.ln o.lcap] 33)) := ⟨_, rfl⟩
  rw [← hW2] at hf HB HBLK
  have HC : Hid (∀ w', Below W2.heap.size W2 w' → w'.cell? ⟨w.heap.size, 0, none⟩ = some (.int .i64 o.ask) ∧ w'.cell? ⟨w.heap.size, 1, none⟩ = some (.int .i64 o.seq) ∧ w'.cell? ⟨w.heap.size, 2, none⟩ = some (.slice o.ra o.rn o.rcap) ∧ w'.cell? ⟨w.heap.size, 3, none⟩ = some (.slice o.ma o.mn o.mcap) ∧ w'.cell? ⟨w.heap.size, 4, none⟩ = some (.slice o.la o.ln o.lcap)) := fun w' h => by
    refine ⟨?_, ?_, ?_, ?_, ?_⟩ <;> (rw [cell_of_row _ _ _ _ _ _ (HBLK.out w' h)]; rfl)
  clear hblk0 hb
  have ha := awake_any
  have hg := get_nil
  have hs := sum_nil
  have had := add_nil
  have hd := drop_nil
  have hch := change_nil
  have hr := rows_nil
  have hv := victims_nil
  go_enter Try.func8, Try.ntmps8
  go_wp2_with fail
  rw [← hW2]
  refine hf.mono ?_
  rintro e w3 ⟨rfl, hb3⟩
  have HB3 := hide hb3
  obtain ⟨c0, c1, c2, c3, c4⟩ := HC.out w3 hb3
  clear hf hW2 hb3
  cases hfe : fewL [o] with
  | false =>
    clear hfe
    go_wp2_with (go_at_call 13; refine (ha _).mono ?_; rintro e w4 ⟨rfl, hb4⟩)
    go_ret
    exact ⟨rfl, HB.out.trans ((HB3.out.trans (hb4.mono HB3.out.size)).mono HB.out.size)⟩
  | true =>
    clear hfe
    go_wp2_with (go_at_call 25; refine (hg _ _).mono ?_; rintro e w4 ⟨rfl, hb4⟩)
    have HB5 := hide ((HB3.out.trans (hb4.mono HB3.out.size)).alloc (Nat.le_trans HB3.out.size hb4.size) (.cells #[.int .i64 0, .int .i64 0, .int .i64 0] 58))
    obtain ⟨d0, d1, d2, d3, d4⟩ := HC.out _ HB5.out
    clear hb4 hg c0 c1 c2 c3 c4
    go_wp2_with (first
      | (go_at_call 15; refine (hs _).mono ?_; rintro e w' ⟨rfl, rfl⟩)
      | (go_at_call 28; refine (had _ _).mono ?_; rintro e w' ⟨rfl, rfl⟩)
      | (go_at_call 29; refine (hd _ _).mono ?_; rintro e w6 ⟨rfl, hb6⟩; have HB6 := hide (HB5.out.trans (hb6.mono HB5.out.size)); obtain ⟨f0, f1, f2, f3, f4⟩ := HC.out w6 HB6.out; clear hb6)
      | (go_at_call 21; refine (hch _ _ _).mono ?_; rintro e w' ⟨rfl, rfl⟩)
      | (go_at_call 17; refine (hr _).mono ?_; rintro e w' ⟨rfl, rfl⟩)
      | (go_at_call 23; refine (hv _).mono ?_; rintro e w' ⟨rfl, rfl⟩)
      | (go_at_call 13; refine (ha _).mono ?_; rintro e w7 ⟨rfl, hb7⟩))
    go_ret
    exact ⟨rfl, HB.out.trans ((HB6.out.trans (hb7.mono HB6.out.size)).mono HB.out.size)⟩
theorem liveNil_walk (o : OpV) (w : World) (h : OpOk w o) : Calls Try.prog 8 #[.agg o.vals.toArray] w fun e w' => e = .returned (.bool true) ∧ Below w.heap.size w w' := nil_walk o w h.big
end Li
end Go.Proofs.Ytgdfmoehbgmfkaa
