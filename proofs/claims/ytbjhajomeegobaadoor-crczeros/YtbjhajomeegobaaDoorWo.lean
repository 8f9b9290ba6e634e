/- A part of the proofs about package crc: what its functions answer, call by call. -/
import Derived.Test.YtbjhajomeegobaaDoorWn
namespace Go.Proofs.YtbjhajomeegobaaDoor
open Go.RowKit
namespace Cr

theorem Mk1_zero : Mk 1 0 = 2197175160 := by decide
theorem Mk1_succ {i : Nat} (h : i + 1 < 32) : Mk 1 (i + 1) = 2 ^ i := by
  rw [Mk_at h, Nat.pow_succ, Nat.mul_comm]
  exact st_even (2 ^ i)
theorem Mk1_shift {k : Nat} (h : k + 1 < 32) : (2 : Int) ^ k % 4294967296 = ((Mk 1 (k + 1) : Nat) : Int) := by
  have hl : 2 ^ k < 4294967296 := Nat.pow_lt_pow_right (a := 2) (n := 32) (m := k) (by omega) (by omega)
  rw [Mk1_succ h, Int.natCast_pow]
  have : ((2 ^ k : Nat) : Int) = (2 : Int) ^ k := by rw [Int.natCast_pow]; rfl
  show (2 : Int) ^ k % 4294967296 = (2 : Int) ^ k
  rw [← this]
  generalize 2 ^ k = P at hl ⊢
  omega
theorem mt_one : mt (upto (Mk 1) 1) = #[.int .u32 2197175160, .int .u32 0, .int .u32 0, .int .u32 0, .int .u32 0, .int .u32 0, .int .u32 0, .int .u32 0, .int .u32 0, .int .u32 0, .int .u32 0, .int .u32 0, .int .u32 0, .int .u32 0, .int .u32 0, .int .u32 0, .int .u32 0, .int .u32 0, .int .u32 0, .int .u32 0, .int .u32 0, .int .u32 0, .int .u32 0, .int .u32 0, .int .u32 0, .int .u32 0, .int .u32 0, .int .u32 0, .int .u32 0, .int .u32 0, .int .u32 0, .int .u32 0] := by
  rw [mt_ext (m' := fun i => if i = 0 then 2197175160 else 0)]
  · rfl
  · intro i _
    unfold upto
    by_cases h : i = 0
    · subst h; simp [Mk1_zero]
    · simp [h]
set_option maxHeartbeats 1000000 in
theorem zeroByte_any (w : World) : Calls Tryd.prog 25 #[] w fun e w' => e = .returned (.agg (mt (Mk 8))) ∧ Below w.heap.size w w' := by
  have A1 : RowAt ((w.alloc (.cells (mt (fun _ => 0)) 54)).alloc (.cells (mt (upto (Mk 1) 1)) 54)) (w.heap.size + 1) (upto (Mk 1) (0 + 1)) := by
    have := RowAt.new (w.alloc (.cells (mt (fun _ => 0)) 54)) (upto (Mk 1) 1)
    rwa [World.size_alloc] at this
  have A0 : ∀ d, RowAt ((w.alloc (.cells (mt (fun _ => 0)) 54)).alloc d) w.heap.size (fun _ => 0) := fun d => (RowAt.new w _).later (below_alloc _ _)
  have AB : ∀ c d, Below w.heap.size w ((w.alloc c).alloc d) := fun c d => (below_alloc _ _).trans ((below_alloc _ _).mono (by simp))
  rw [mt_zero, mt_one] at A1
  rw [mt_zero] at A0
  have hs1 := mt_info (Mk 1)
  have hs8 := mt_info (Mk 8)
  go_enter Tryd.func25, Tryd.ntmps25
  go_wp2
  go_loopw [2] (fun i wr => ∃ k : Nat, k + 1 ≤ 32 ∧ i = .int .i64 (k + 1 : Nat) ∧ RowAt wr w.heap.size (fun _ => 0) ∧ RowAt wr (w.heap.size + 1) (upto (Mk 1) (k + 1)) ∧ Below w.heap.size w wr) (fun i _ => 32 - (intOf i).toNat)
  case atStart => exact ⟨0, by omega, rfl, A0 _, A1, AB _ _⟩
  case round =>
    clear A0 A1 AB
    obtain ⟨k, hk, rfl, r0, r1, hbr⟩ := hrel
    by_cases hlt : k + 1 < 32
    · have c0 := r1.cell hlt
      have f0 := r1.frozen (k + 1)
      have e1 := Mk1_shift hlt
      have R0 := hide ((r0.other (by omega) (k + 1) (.int .u32 (Mk 1 (k + 1) : Nat)) : RowAt (wr.setCell ⟨w.heap.size + 1, k + 1, none⟩ _) _ _))
      have R1 := hide (r1.set)
      have RB := hide (below_set (g := w.heap.size + 1) hbr (by omega) (k + 1) (.int .u32 (Mk 1 (k + 1) : Nat)))
      generalize upto (Mk 1) (k + 1) (k + 1) = old at *
      clear r0 r1 hbr
      generalize Mk 1 (k + 1) = v at e1 R0 R1 RB
      go_wp2
      go_roundw
      case rel => exact ⟨k + 1, by omega, by go_num, R0.out, R1.out, RB.out⟩
      case measure => simp [intOf]; omega
    · have r2 : RowAt wr (w.heap.size + 1) (Mk 1) := by unfold RowAt at *; rwa [show k + 1 = 32 by omega, mt_full] at r1
      clear r1
      go_wp2_with (refine wpList_load_row rfl 54 (.tmp 1) rfl (w.heap.size + 1) rfl 54 _ (0, 0) _ r2 Tryd.underlying54 rfl hs1 ?_)
      refine (square_Mk 1 _).mono ?_
      rintro e w1 ⟨rfl, hb1⟩
      go_wp2_with fail
      refine (square_Mk 2 _).mono ?_
      rintro e w2 ⟨rfl, hb2⟩
      go_wp2_with fail
      refine (square_Mk 4 _).mono ?_
      rintro e w3 ⟨rfl, hb3⟩
      have R0 := ((r0.later hb1).later hb2).later hb3
      have RX := hide (R0.setRow (Mk 8))
      have RB := hide (below_setRow (g := w.heap.size) (((hbr.trans (hb1.mono hbr.size)).trans (hb2.mono (Nat.le_trans hbr.size hb1.size))).trans (hb3.mono (Nat.le_trans (Nat.le_trans hbr.size hb1.size) hb2.size))) (Nat.le_refl _) (mt (Mk 8)))
      clear r0 r2 hbr hb1 hb2 hb3
      go_wp2_with (refine wpList_store_row rfl 54 (.tmp 0) (.tmp 16) rfl w.heap.size (mt (Mk 8)) rfl rfl 54 _ R0 hs8 (by rw [mt_size, mt_size]) (mt_oneCell _) ?_)
      refine bodyPost_ret (v := .agg (mt (Mk 8))) (results_cell_row (p := 0) (ty := 54) rfl _ _ w.heap.size 54 _ (0, 0) _ rfl RX.out Tryd.underlying54 rfl hs8) rfl ⟨rfl, RB.out⟩

end Cr
end Go.Proofs.YtbjhajomeegobaaDoor
