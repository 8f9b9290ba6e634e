/- A part of the proofs about package wire: what its functions answer, call by call. -/
import Derived.Test.YtnpnghdjdelemaaWq
import Derived.Test.YtnpnghdjdelemaaWs
namespace Go.Proofs.Ytnpnghdjdelemaa
open Go.RowKit
namespace Wi

theorem Os.one (w : World) (k : Int) (x : Nat) (s : ByteArray) (n : Int) (hk : Num k) (hx : x < 18446744073709551616) (hs : s.size ≤ 9223372036854775807) (hn : Num n) :
    Os (w.alloc (.cells #[.int .i64 k, .int .u64 (x : Nat), .string s, .int .i64 n] 33)) (some ⟨w.heap.size, 0, none⟩) 1 [⟨k, x, s, n⟩] :=
  ⟨rfl, by omega, by simpa using ⟨hk, hx, hs, hn⟩, fun i o hi => by
    cases i with
    | zero => simp at hi; subst hi; exact ⟨_, _, rfl, by simp, by simp, by simp, by simp, by simp⟩
    | succ i => simp at hi⟩
theorem opsB_one (k : Int) (x : Nat) (s : ByteArray) (n : Int) : opsB [⟨k, x, s, n⟩] = decide (s.size ≤ 300) := by simp [opsB]
set_option maxHeartbeats 4000000 in
theorem wireNil_walk (k : Int) (x : Nat) (s : ByteArray) (n : Int) (W : World) (hk : Num k) (hx : x < 18446744073709551616) (hs : s.size ≤ 9223372036854775807) (hn : Num n) :
    Calls Try.prog 7 #[.agg #[.int .i64 k, .int .u64 (x : Nat), .string s, .int .i64 n]] W fun e w' => e = .returned (.bool true) ∧ Below W.heap.size W w' := by
  have hfew := fewf_any (some ⟨(W.alloc (.cells #[.int .i64 k, .int .u64 (x : Nat), .string s, .int .i64 n] 33)).heap.size, 0, none⟩) 1 1 _ _ (Os.one (W.alloc (.cells #[.int .i64 k, .int .u64 (x : Nat), .string s, .int .i64 n] 33)) k x s n hk hx hs hn)
  rw [opsB_one] at hfew
  simp only [World.size_alloc] at hfew
  by_cases h3 : s.size ≤ 300
  · rw [decide_eq_true h3] at hfew
    by_cases k0 : k = 0
    · subst k0
      have hw := write_nil 0 x s n (by omega)
      have hr := readf_nil 0 x s n
      rw [show nE 0 = 2 from rfl] at hw
      have B1 := below_alloc W (.cells #[.int .i64 0, .int .u64 (x : Nat), .string s, .int .i64 n] 33)
      have B2 : Below W.heap.size W ((W.alloc (.cells #[.int .i64 0, .int .u64 (x : Nat), .string s, .int .i64 n] 33)).alloc (.cells #[.int .i64 0, .int .u64 (x : Nat), .string s, .int .i64 n] 33)) := B1.trans ((below_alloc _ _).mono B1.size)
      go_enter Try.func7, Try.ntmps7
      go_wp2_with fail
      refine hfew.mono ?_
      rintro e w1 ⟨rfl, hw1⟩
      subst hw1
      go_wp2_with fail
      refine (hw _).mono ?_
      rintro e w2 ⟨rfl, hb2⟩
      have hcell : ∀ w3, Below (W.heap.size + 1) ((W.alloc (.cells #[.int .i64 0, .int .u64 (x : Nat), .string s, .int .i64 n] 33)).alloc (.cells #[.int .i64 0, .int .u64 (x : Nat), .string s, .int .i64 n] 33)) w3 → w3.cell? ⟨W.heap.size, 0, none⟩ = some (.int .i64 0) ∧ w3.cell? ⟨W.heap.size, 1, none⟩ = some (.int .u64 (x : Nat)) ∧ w3.cell? ⟨W.heap.size, 2, none⟩ = some (.string s) ∧ w3.cell? ⟨W.heap.size, 3, none⟩ = some (.int .i64 n) := fun w3 hb => by
        refine ⟨?_, ?_, ?_, ?_⟩ <;> (rw [hb.cell (by simp)]; simp)
      obtain ⟨c0, c1, c2, c3⟩ := hcell _ (hb2.mono (by simp))
      have BB := hide (B2.trans (hb2.mono B2.size))
      go_wp2_with fail
      refine (hr _).mono ?_
      rintro e w3 ⟨rfl, hb3⟩
      have BC := hide (BB.out.trans (hb3.mono BB.out.size))
      obtain ⟨d0, d1, d2, d3⟩ := hcell _ ((hb2.mono (by simp)).trans (hb3.mono (by have := hb2.size; simp at this; omega)))
      clear hcell c0 c1 c2 c3
      go_wp2_with fail
      refine (string_nil _).mono ?_
      rintro e w' ⟨rfl, hw'⟩
      subst hw'
      go_wp2_with fail
      refine (at_nil _).mono ?_
      rintro e w' ⟨rfl, hw'⟩
      subst hw'
      go_wp2_with fail
      refine (left_nil _).mono ?_
      rintro e w' ⟨rfl, hw'⟩
      subst hw'
      go_wp2_with fail
      refine (err_nil _).mono ?_
      rintro e w' ⟨rfl, hw'⟩
      subst hw'
      go_wp2_with fail
      refine (done_nil _).mono ?_
      rintro e w' ⟨rfl, hw'⟩
      subst hw'
      go_wp2_with fail
      refine (awake_any _).mono ?_
      rintro e w5 ⟨rfl, hb5⟩
      go_wp2
      go_ret
      exact ⟨rfl, BC.out.trans (hb5.mono BC.out.size)⟩
    · have hk0 : (k == 0) = false := by rw [beq_eq_false_iff_ne]; exact k0
      have hw := write_nil k x s n (by omega)
      have hr := readf_nil k x s n
      rw [show nE k = 0 by simp [nE, k0]] at hw
      clear k0
      have B1 := below_alloc W (.cells #[.int .i64 k, .int .u64 (x : Nat), .string s, .int .i64 n] 33)
      have B2 : Below W.heap.size W ((W.alloc (.cells #[.int .i64 k, .int .u64 (x : Nat), .string s, .int .i64 n] 33)).alloc (.cells #[.int .i64 k, .int .u64 (x : Nat), .string s, .int .i64 n] 33)) := B1.trans ((below_alloc _ _).mono B1.size)
      go_enter Try.func7, Try.ntmps7
      go_wp2_with fail
      refine hfew.mono ?_
      rintro e w1 ⟨rfl, hw1⟩
      subst hw1
      go_wp2_with fail
      refine (hw _).mono ?_
      rintro e w2 ⟨rfl, hb2⟩
      have hcell : ∀ w3, Below (W.heap.size + 1) ((W.alloc (.cells #[.int .i64 k, .int .u64 (x : Nat), .string s, .int .i64 n] 33)).alloc (.cells #[.int .i64 k, .int .u64 (x : Nat), .string s, .int .i64 n] 33)) w3 → w3.cell? ⟨W.heap.size, 0, none⟩ = some (.int .i64 k) ∧ w3.cell? ⟨W.heap.size, 1, none⟩ = some (.int .u64 (x : Nat)) ∧ w3.cell? ⟨W.heap.size, 2, none⟩ = some (.string s) ∧ w3.cell? ⟨W.heap.size, 3, none⟩ = some (.int .i64 n) := fun w3 hb => by
        refine ⟨?_, ?_, ?_, ?_⟩ <;> (rw [hb.cell (by simp)]; simp)
      obtain ⟨c0, c1, c2, c3⟩ := hcell _ (hb2.mono (by simp))
      have BB := hide (B2.trans (hb2.mono B2.size))
      go_wp2_with fail
      refine (hr _).mono ?_
      rintro e w3 ⟨rfl, hb3⟩
      have BC := hide (BB.out.trans (hb3.mono BB.out.size))
      obtain ⟨d0, d1, d2, d3⟩ := hcell _ ((hb2.mono (by simp)).trans (hb3.mono (by have := hb2.size; simp at this; omega)))
      clear hcell c0 c1 c2 c3
      go_wp2_with fail
      refine (string_nil _).mono ?_
      rintro e w' ⟨rfl, hw'⟩
      subst hw'
      go_wp2_with fail
      refine (at_nil _).mono ?_
      rintro e w' ⟨rfl, hw'⟩
      subst hw'
      go_wp2_with fail
      refine (left_nil _).mono ?_
      rintro e w' ⟨rfl, hw'⟩
      subst hw'
      go_wp2_with fail
      refine (err_nil _).mono ?_
      rintro e w' ⟨rfl, hw'⟩
      subst hw'
      go_wp2_with fail
      refine (done_nil _).mono ?_
      rintro e w' ⟨rfl, hw'⟩
      subst hw'
      go_wp2_with fail
      refine (awake_any _).mono ?_
      rintro e w5 ⟨rfl, hb5⟩
      go_wp2
      go_ret
      exact ⟨rfl, BC.out.trans (hb5.mono BC.out.size)⟩
  · rw [decide_eq_false h3] at hfew
    have B1 := below_alloc W (.cells #[.int .i64 k, .int .u64 (x : Nat), .string s, .int .i64 n] 33)
    have B2 : Below W.heap.size W ((W.alloc (.cells #[.int .i64 k, .int .u64 (x : Nat), .string s, .int .i64 n] 33)).alloc (.cells #[.int .i64 k, .int .u64 (x : Nat), .string s, .int .i64 n] 33)) := B1.trans ((below_alloc _ _).mono B1.size)
    go_enter Try.func7, Try.ntmps7
    go_wp2_with fail
    refine hfew.mono ?_
    rintro e w1 ⟨rfl, hw1⟩
    subst hw1
    go_wp2_with fail
    refine (awake_any _).mono ?_
    rintro e w5 ⟨rfl, hb5⟩
    go_wp2
    go_ret
    exact ⟨rfl, B2.trans (hb5.mono B2.size)⟩

end Wi
end Go.Proofs.Ytnpnghdjdelemaa
