/- What the checks of a record answer, call by call. -/
import Derived.Test.YtnpbgjafahhadaaDoorRb
import Derived.Laws.EntriesVeiled
namespace Go.Proofs.YtnpbgjafahhadaaDoor
open Go.RowKit
namespace Re
open Cr
theorem checkNote_any (ep nu ki : Int) (a : Option Addr) (n cap : Nat) (xs : List (Int × Int)) (da tx : ByteArray) (w : World) (h : Sl w a n xs) :
    Calls Tryd.prog 56 #[.agg #[.int .i64 ep, .int .i64 nu, .int .i64 ki, .slice a n cap, .string da, .string tx]] w fun e w' => e = .returned (.int .i64 (nB ⟨ep, nu, ki, xs, da, tx⟩)) ∧ Below w.heap.size w w' := by
  have HL := hide h.len
  clear h
  by_cases h0 : 0 < n
  · have e1 : nB ⟨ep, nu, ki, xs, da, tx⟩ = 1 := by unfold nB; exact if_pos (by simp only; have := HL.out; omega)
    rw [e1]
    clear e1
    go_enter Tryd.func56, Tryd.ntmps56
    go_wp2
    go_ret
    exact ⟨rfl, below_alloc _ _⟩
  · by_cases h1 : 512 < tx.size
    · have e1 : nB ⟨ep, nu, ki, xs, da, tx⟩ = 1 := by unfold nB; exact if_pos (by simp only; omega)
      rw [e1]
      clear e1
      have h2 : (512 : Int) < (tx.size : Int) := by omega
      go_enter Tryd.func56, Tryd.ntmps56
      go_wp2
      go_ret
      exact ⟨rfl, below_alloc _ _⟩
    · have e1 : nB ⟨ep, nu, ki, xs, da, tx⟩ = 0 := by unfold nB; exact if_neg (by simp only; have := HL.out; omega)
      rw [e1]
      clear e1
      have h2 : ¬ (512 : Int) < (tx.size : Int) := by omega
      go_enter Tryd.func56, Tryd.ntmps56
      go_wp2
      go_ret
      exact ⟨rfl, below_alloc _ _⟩
theorem checkWrite_any (ep nu ki : Int) (a : Option Addr) (n cap : Nat) (xs : List (Int × Int)) (da tx : ByteArray) (w : World) (h : Sl w a n xs) (ht : tx.size ≤ 9223372036854775807) :
    Calls Tryd.prog 48 #[.agg #[.int .i64 ep, .int .i64 nu, .int .i64 ki, .slice a n cap, .string da, .string tx]] w fun e w' => e = .returned (.int .i64 (wB ⟨ep, nu, ki, xs, da, tx⟩)) ∧ Below w.heap.size w w' := by
  have hc := fun w (h : Sl w a n xs) => checkTrim_any ep nu ki a n cap xs da tx w h ht
  have hS := h.later (below_alloc w (.cells #[.int .i64 ep, .int .i64 nu, .int .i64 ki, .slice a n cap, .string da, .string tx] 24))
  by_cases hz : tB ⟨ep, nu, ki, xs, da, tx⟩ = 0
  · obtain ⟨_, _, h64, hal⟩ := tB_ok hz
    simp only at h64 hal
    have htt := fun w (h : Sl w a n xs) => total_any ep nu ki a n cap xs da tx w h hal (by have := h.len; omega)
    obtain ⟨X, hX⟩ : ∃ X : Int, Hid (X = wB ⟨ep, nu, ki, xs, da, tx⟩) := ⟨_, rfl⟩
    have hW : Hid (wB ⟨ep, nu, ki, xs, da, tx⟩ = if 512 < total xs then 1 else 0) := by unfold wB; exact if_pos hz
    rw [← hX.out]
    rw [hz] at hc
    clear hz hal h
    generalize total xs = t at *
    go_enter Tryd.func48, Tryd.ntmps48
    go_wp2_with fail
    refine (hc _ hS).mono ?_
    rintro e w1 ⟨rfl, b1⟩
    have BB := (below_alloc _ _).trans (b1.mono (by simp))
    have X0 := (boxR w ep nu ki (.slice a n cap) da tx 24).later (b1.mono (by simp))
    have c0 := X0.c0
    have c1 := X0.c1
    have c2 := X0.c2
    have c3 := X0.c3
    have c4 := X0.c4
    have c5 := X0.c5
    have hS1 := hS.later b1
    clear hc hS b1 X0
    go_wp2_with fail
    refine (htt _ hS1).mono ?_
    rintro e w2 ⟨rfl, b2⟩
    have BF := BB.trans (b2.mono BB.size)
    clear htt hS1 b2 c0 c1 c2 c3 c4 c5
    by_cases h5 : 512 < t
    · have e2 : Hid (X = 1) := by rw [hX.out, hW.out, if_pos h5]; rfl
      clear hX hW
      go_wp2
      go_ret
      exact ⟨ret_int e2.out.symm, BF⟩
    · have e2 : Hid (X = 0) := by rw [hX.out, hW.out, if_neg h5]; rfl
      clear hX hW
      go_wp2
      go_ret
      exact ⟨ret_int e2.out.symm, BF⟩
  · have h1 : tB ⟨ep, nu, ki, xs, da, tx⟩ = 1 := by rcases tB_cases ⟨ep, nu, ki, xs, da, tx⟩ with h | h <;> omega
    have e1 : wB ⟨ep, nu, ki, xs, da, tx⟩ = 1 := by unfold wB; exact if_neg hz
    rw [e1]
    rw [h1] at hc
    clear e1 h1 hz h
    go_enter Tryd.func48, Tryd.ntmps48
    go_wp2_with fail
    refine (hc _ hS).mono ?_
    rintro e w1 ⟨rfl, b1⟩
    have BB := (below_alloc _ _).trans (b1.mono (by simp))
    clear hc hS b1
    go_wp2
    go_ret
    exact ⟨rfl, BB⟩
theorem needs1 (w : World) : Calls Tryd.prog 29 #[.int .i64 1] w fun e w' => e = .returned (.agg #[.func (.func 48) #[] #[], .func (.func 49) #[] #[], .func (.func 50) #[] #[], .func (.func 51) #[] #[]]) ∧ Below w.heap.size w w' := by
  have d0 : (w.alloc (.cells #[.func (.func 48) #[] #[], .func (.func 49) #[] #[], .func (.func 50) #[] #[], .func (.func 51) #[] #[]] 65)).cell? ⟨w.heap.size, 0, none⟩ = some (.func (.func 48) #[] #[]) := by simp
  have d1 : (w.alloc (.cells #[.func (.func 48) #[] #[], .func (.func 49) #[] #[], .func (.func 50) #[] #[], .func (.func 51) #[] #[]] 65)).cell? ⟨w.heap.size, 1, none⟩ = some (.func (.func 49) #[] #[]) := by simp
  have d2 : (w.alloc (.cells #[.func (.func 48) #[] #[], .func (.func 49) #[] #[], .func (.func 50) #[] #[], .func (.func 51) #[] #[]] 65)).cell? ⟨w.heap.size, 2, none⟩ = some (.func (.func 50) #[] #[]) := by simp
  have d3 : (w.alloc (.cells #[.func (.func 48) #[] #[], .func (.func 49) #[] #[], .func (.func 50) #[] #[], .func (.func 51) #[] #[]] 65)).cell? ⟨w.heap.size, 3, none⟩ = some (.func (.func 51) #[] #[]) := by simp
  go_enter Tryd.func29, Tryd.ntmps29
  go_wp2
  refine bodyPost_ret (v := .agg #[.func (.func 48) #[] #[], .func (.func 49) #[] #[], .func (.func 50) #[] #[], .func (.func 51) #[] #[]]) (by simp [results, Tryd.results29, go_sem, d0, d1, d2, d3]) rfl ⟨rfl, below_alloc _ _⟩
theorem needs2 (w : World) : Calls Tryd.prog 29 #[.int .i64 2] w fun e w' => e = .returned (.agg #[.func (.func 52) #[] #[], .func (.func 53) #[] #[], .func (.func 54) #[] #[], .func (.func 55) #[] #[]]) ∧ Below w.heap.size w w' := by
  have d0 : (w.alloc (.cells #[.func (.func 52) #[] #[], .func (.func 53) #[] #[], .func (.func 54) #[] #[], .func (.func 55) #[] #[]] 65)).cell? ⟨w.heap.size, 0, none⟩ = some (.func (.func 52) #[] #[]) := by simp
  have d1 : (w.alloc (.cells #[.func (.func 52) #[] #[], .func (.func 53) #[] #[], .func (.func 54) #[] #[], .func (.func 55) #[] #[]] 65)).cell? ⟨w.heap.size, 1, none⟩ = some (.func (.func 53) #[] #[]) := by simp
  have d2 : (w.alloc (.cells #[.func (.func 52) #[] #[], .func (.func 53) #[] #[], .func (.func 54) #[] #[], .func (.func 55) #[] #[]] 65)).cell? ⟨w.heap.size, 2, none⟩ = some (.func (.func 54) #[] #[]) := by simp
  have d3 : (w.alloc (.cells #[.func (.func 52) #[] #[], .func (.func 53) #[] #[], .func (.func 54) #[] #[], .func (.func 55) #[] #[]] 65)).cell? ⟨w.heap.size, 3, none⟩ = some (.func (.func 55) #[] #[]) := by simp
  go_enter Tryd.func29, Tryd.ntmps29
  go_wp2
  refine bodyPost_ret (v := .agg #[.func (.func 52) #[] #[], .func (.func 53) #[] #[], .func (.func 54) #[] #[], .func (.func 55) #[] #[]]) (by simp [results, Tryd.results29, go_sem, d0, d1, d2, d3]) rfl ⟨rfl, below_alloc _ _⟩
theorem needs3 (w : World) : Calls Tryd.prog 29 #[.int .i64 3] w fun e w' => e = .returned (.agg #[.func (.func 56) #[] #[], .func (.func 53) #[] #[], .func (.func 57) #[] #[], .func (.func 58) #[] #[]]) ∧ Below w.heap.size w w' := by
  have d0 : (w.alloc (.cells #[.func (.func 56) #[] #[], .func (.func 53) #[] #[], .func (.func 57) #[] #[], .func (.func 58) #[] #[]] 65)).cell? ⟨w.heap.size, 0, none⟩ = some (.func (.func 56) #[] #[]) := by simp
  have d1 : (w.alloc (.cells #[.func (.func 56) #[] #[], .func (.func 53) #[] #[], .func (.func 57) #[] #[], .func (.func 58) #[] #[]] 65)).cell? ⟨w.heap.size, 1, none⟩ = some (.func (.func 53) #[] #[]) := by simp
  have d2 : (w.alloc (.cells #[.func (.func 56) #[] #[], .func (.func 53) #[] #[], .func (.func 57) #[] #[], .func (.func 58) #[] #[]] 65)).cell? ⟨w.heap.size, 2, none⟩ = some (.func (.func 57) #[] #[]) := by simp
  have d3 : (w.alloc (.cells #[.func (.func 56) #[] #[], .func (.func 53) #[] #[], .func (.func 57) #[] #[], .func (.func 58) #[] #[]] 65)).cell? ⟨w.heap.size, 3, none⟩ = some (.func (.func 58) #[] #[]) := by simp
  go_enter Tryd.func29, Tryd.ntmps29
  go_wp2
  refine bodyPost_ret (v := .agg #[.func (.func 56) #[] #[], .func (.func 53) #[] #[], .func (.func 57) #[] #[], .func (.func 58) #[] #[]]) (by simp [results, Tryd.results29, go_sem, d0, d1, d2, d3]) rfl ⟨rfl, below_alloc _ _⟩
theorem needsX {k : Int} (h1 : ¬ k = 1) (h2 : ¬ k = 2) (h3 : ¬ k = 3) (w : World) : Calls Tryd.prog 29 #[.int .i64 k] w fun e w' => e = .returned (.agg #[.func (.func 59) #[] #[], .nilFunc, .nilFunc, .func (.func 60) #[] #[]]) ∧ Below w.heap.size w w' := by
  have d0 : (w.alloc (.cells #[.func (.func 59) #[] #[], .nilFunc, .nilFunc, .func (.func 60) #[] #[]] 65)).cell? ⟨w.heap.size, 0, none⟩ = some (.func (.func 59) #[] #[]) := by simp
  have d1 : (w.alloc (.cells #[.func (.func 59) #[] #[], .nilFunc, .nilFunc, .func (.func 60) #[] #[]] 65)).cell? ⟨w.heap.size, 1, none⟩ = some (.nilFunc) := by simp
  have d2 : (w.alloc (.cells #[.func (.func 59) #[] #[], .nilFunc, .nilFunc, .func (.func 60) #[] #[]] 65)).cell? ⟨w.heap.size, 2, none⟩ = some (.nilFunc) := by simp
  have d3 : (w.alloc (.cells #[.func (.func 59) #[] #[], .nilFunc, .nilFunc, .func (.func 60) #[] #[]] 65)).cell? ⟨w.heap.size, 3, none⟩ = some (.func (.func 60) #[] #[]) := by simp
  go_enter Tryd.func29, Tryd.ntmps29
  go_wp2
  refine bodyPost_ret (v := .agg #[.func (.func 59) #[] #[], .nilFunc, .nilFunc, .func (.func 60) #[] #[]]) (by simp [results, Tryd.results29, go_sem, d0, d1, d2, d3]) rfl ⟨rfl, below_alloc _ _⟩
theorem fld0 (u0 u1 u2 u3 : Value) (w : World) : (Instr.field 65 (.agg #[u0, u1, u2, u3]) 0).run Tryd.prog w = .ok u0 w := by
  simp [Instr.field, go_sem, asAgg]
theorem fld1 (u0 u1 u2 u3 : Value) (w : World) : (Instr.field 65 (.agg #[u0, u1, u2, u3]) 1).run Tryd.prog w = .ok u1 w := by
  simp [Instr.field, go_sem, asAgg]
theorem fld2 (u0 u1 u2 u3 : Value) (w : World) : (Instr.field 65 (.agg #[u0, u1, u2, u3]) 2).run Tryd.prog w = .ok u2 w := by
  simp [Instr.field, go_sem, asAgg]
theorem fld3 (u0 u1 u2 u3 : Value) (w : World) : (Instr.field 65 (.agg #[u0, u1, u2, u3]) 3).run Tryd.prog w = .ok u3 w := by
  simp [Instr.field, go_sem, asAgg]
end Re
end Go.Proofs.YtnpbgjafahhadaaDoor
