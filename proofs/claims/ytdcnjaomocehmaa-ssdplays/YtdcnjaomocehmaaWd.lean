/- A part of the proofs about package ssd: what its functions answer, call by call. -/
import Derived.Test.YtdcnjaomocehmaaWc
namespace Go.Proofs.Ytdcnjaomocehmaa
open Go.RowKit
namespace Wi

theorem sectors_any {w : World} {b : Nat} {X : Nat → Prop} {d : Dv} (h : Dev w b X d) : Calls Try.prog 25 #[.pointer (some ⟨b, 0, none⟩)] w fun e w' => e = .returned (.int .i64 (d.last.length : Nat)) ∧ w' = w := by
  obtain ⟨sv, pv, z, h, _⟩ := h
  obtain ⟨c0, c1, c2, c3⟩ := h.raw.c
  obtain ⟨av, cap, rfl⟩ := row_slice h.raw.sec
  rw [d.now_length] at c0
  go_enter Try.func25, Try.ntmps25
  go_wp2
  go_ret
  exact ⟨rfl, rfl⟩
theorem pending_any {w : World} {b : Nat} {X : Nat → Prop} {d : Dv} (h : Dev w b X d) : Calls Try.prog 21 #[.pointer (some ⟨b, 0, none⟩)] w fun e w' => e = .returned (.int .i64 (d.pend.length : Nat)) ∧ w' = w := by
  obtain ⟨sv, pv, z, h, _⟩ := h
  obtain ⟨c0, c1, c2, c3⟩ := h.raw.c
  obtain ⟨av, cap, rfl⟩ := row_slice h.raw.chg
  rw [logOf_length] at c1
  go_enter Try.func21, Try.ntmps21
  go_wp2
  go_ret
  exact ⟨rfl, rfl⟩
theorem lost_any {w : World} {b : Nat} {X : Nat → Prop} {d : Dv} (h : Dev w b X d) : Calls Try.prog 26 #[.pointer (some ⟨b, 0, none⟩)] w fun e w' => e = .returned (.bool d.gone) ∧ w' = w := by
  obtain ⟨sv, pv, z, h, _⟩ := h
  obtain ⟨c0, c1, c2, c3⟩ := h.raw.c
  go_enter Try.func26, Try.ntmps26
  go_wp2
  go_ret
  exact ⟨rfl, rfl⟩
/-- What a call leaves, its blocks not told. -/
def Left (w : World) (b : Nat) (X : Nat → Prop) (d : Dv) (w' : World) : Prop := ∃ X', Does w b X w' X' d
theorem stop_any {w : World} {b : Nat} {X : Nat → Prop} {d : Dv} (h : Dev w b X d) (n : Int) (hn : -9223372036854775808 ≤ n ∧ n ≤ 9223372036854775807) : Calls Try.prog 24 #[.pointer (some ⟨b, 0, none⟩), .int .i64 n] w fun e w' => e = .returned (.tuple #[]) ∧ Left w b X (d.halt n) w' := by
  obtain ⟨sv, pv, z, h, rfl⟩ := h
  obtain ⟨c0, c1, c2, c3⟩ := h.raw.c
  have f2 := h.raw.fr 2
  go_enter Try.func24, Try.ntmps24
  go_wp2
  go_end0
  refine ⟨rfl, _, does_same (Keep.setCell w _ _ (.inl rfl)) ⟨h.raw.setLeft n, ⟨h.ok.most, h.ok.whole, h.ok.pend⟩, hn.1, hn.2, ?_⟩⟩
  by_cases h0 : n < 0
  · exact .inl ⟨h0, by simp [Dv.halt, h0]⟩
  · exact .inr ⟨n.toNat, by omega, by simp [Dv.halt, h0]⟩
theorem lose_any {w : World} {b : Nat} {X : Nat → Prop} {d : Dv} (h : Dev w b X d) : Calls Try.prog 28 #[.pointer (some ⟨b, 0, none⟩)] w fun e w' => e = .returned (.tuple #[]) ∧ Left w b X d.lose w' := by
  obtain ⟨sv, pv, z, h, rfl⟩ := h
  obtain ⟨c0, c1, c2, c3⟩ := h.raw.c
  have f3 := h.raw.fr 3
  go_enter Try.func28, Try.ntmps28
  go_wp2
  go_end0
  exact ⟨rfl, _, does_same (Keep.setCell w _ _ (.inl rfl)) ⟨h.raw.setLost true, ⟨h.ok.most, h.ok.whole, h.ok.pend⟩, h.stop⟩⟩
theorem barrier_any {w : World} {b : Nat} {X : Nat → Prop} {d : Dv} (h : Dev w b X d) : Calls Try.prog 20 #[.pointer (some ⟨b, 0, none⟩)] w fun e w' => e = .returned (.int .i64 d.barrierA) ∧ Left w b X d.barrier w' := by
  have h0 := h
  obtain ⟨sv, pv, z, h, rfl⟩ := h
  cases hd : d.dead with
  | true =>
    have ht := turn_dead h hd
    have e1 : d.barrierA = 17 := by simp [Dv.barrierA, hd]
    have e2 : d.barrier = d := by simp [Dv.barrier, hd]
    rw [e1, e2]
    go_enter Try.func20, Try.ntmps20
    go_wp2_with fail
    refine ht.mono ?_
    rintro e w' ⟨rfl, rfl⟩
    go_wp2
    go_ret
    exact ⟨rfl, _, Does.refl h0⟩
  | false =>
    have ht := turn_ok h hd
    have e1 : d.barrierA = 0 := by simp [Dv.barrierA, hd]
    have e2 : d.barrier = { d.tick with last := d.now, pend := [] } := by simp [Dv.barrier, hd]
    rw [e1, e2]
    have hok := h.ok.barrier
    rw [e2] at hok
    go_enter Try.func20, Try.ntmps20
    go_wp2_with fail
    refine ht.mono ?_
    rintro e w' ⟨rfl, ⟨z', h'⟩, hk⟩
    have f1 := h'.raw.fr 1
    obtain ⟨c0, c1, c2, c3⟩ := h'.raw.c
    go_wp2
    go_ret
    refine ⟨rfl, xDev b sv (.slice none 0 0), ⟨⟨sv, .slice none 0 0, z', ⟨h'.raw.setNone, hok, h'.stop⟩, rfl⟩, hk.trans (Keep.setCell (X := xDev b sv pv) w' _ _ (.inl rfl)) fun _ _ e => e, fun k hx => .inl ?_⟩⟩
    rcases hx with hx | hx | hx
    · exact .inl hx
    · exact .inr (.inl hx)
    · simp [Value.ownBlock] at hx
theorem nil_any (w : World) : Calls Try.prog 25 #[.pointer none] w (fun e w' => e = .returned (.int .i64 0) ∧ w' = w) ∧ Calls Try.prog 21 #[.pointer none] w (fun e w' => e = .returned (.int .i64 0) ∧ w' = w) ∧ Calls Try.prog 26 #[.pointer none] w (fun e w' => e = .returned (.bool false) ∧ w' = w) ∧
    Calls Try.prog 28 #[.pointer none] w (fun e w' => e = .returned (.tuple #[]) ∧ w' = w) ∧ Calls Try.prog 20 #[.pointer none] w (fun e w' => e = .returned (.int .i64 2) ∧ w' = w) ∧ Calls Try.prog 17 #[.pointer none] w (fun e w' => e = .returned (.pointer none) ∧ w' = w) := by
  refine ⟨?_, ?_, ?_, ?_, ?_, ?_⟩
  · go_enter Try.func25, Try.ntmps25
    go_wp2
    go_ret
    exact ⟨rfl, rfl⟩
  · go_enter Try.func21, Try.ntmps21
    go_wp2
    go_ret
    exact ⟨rfl, rfl⟩
  · go_enter Try.func26, Try.ntmps26
    go_wp2
    go_ret
    exact ⟨rfl, rfl⟩
  · go_enter Try.func28, Try.ntmps28
    go_wp2
    go_end0
    exact ⟨rfl, rfl⟩
  · go_enter Try.func20, Try.ntmps20
    go_wp2
    go_ret
    exact ⟨rfl, rfl⟩
  · go_enter Try.func17, Try.ntmps17
    go_wp2
    go_ret
    exact ⟨rfl, rfl⟩
theorem stop_nil (n : Int) (w : World) : Calls Try.prog 24 #[.pointer none, .int .i64 n] w fun e w' => e = .returned (.tuple #[]) ∧ w' = w := by
  go_enter Try.func24, Try.ntmps24
  go_wp2
  go_end0
  exact ⟨rfl, rfl⟩
theorem crash_nil (v : Value) (w : World) : Calls Try.prog 22 #[.pointer none, v] w fun e w' => e = .returned (.tuple #[]) ∧ w' = w := by
  go_enter Try.func22, Try.ntmps22
  go_wp2
  (try simp only [Exit.inBlock, Exit.then])
  refine bodyPost_ret (results_none rfl _ _ _) rfl ?_
  exact ⟨rfl, rfl⟩
theorem read_nil (a n : Int) (w : World) : Calls Try.prog 23 #[.pointer none, .int .i64 a, .int .i64 n] w fun e w' => e = .returned (.tuple #[.string { data := #[] }, .int .i64 2]) ∧ w' = w := by
  go_enter Try.func23, Try.ntmps23
  go_wp2
  go_ret2
  exact ⟨rfl, rfl⟩
theorem write_nil (a : Int) (s : ByteArray) (w : World) : Calls Try.prog 18 #[.pointer none, .int .i64 a, .string s] w fun e w' => e = .returned (.int .i64 2) ∧ w' = w := by
  go_enter Try.func18, Try.ntmps18
  go_wp2
  go_ret
  exact ⟨rfl, rfl⟩

end Wi
end Go.Proofs.Ytdcnjaomocehmaa
