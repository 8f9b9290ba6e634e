/- What is wrong with a record. -/
import Derived.Test.YtnpbgjafahhadaaDoorRd
namespace Go.Proofs.YtnpbgjafahhadaaDoor
open Go.RowKit
namespace Re
open Cr
theorem wrap64_id {x : Int} (h1 : -9223372036854775808 ≤ x) (h2 : x ≤ 9223372036854775807) : IntKind.i64.wrap x = x := by
  rw [IntKind.wrap_i64]
  omega
set_option maxHeartbeats 4000000 in
set_option maxRecDepth 20000 in
theorem check_any (ep nu ki : Int) (a : Option Addr) (n cap : Nat) (xs : List (Int × Int)) (da tx : ByteArray) (w : World) (h : Sl w a n xs) (ht : tx.size ≤ 9223372036854775807) (hd : da.size ≤ 9223372036854775807) :
    Calls Tryd.prog 14 #[.agg #[.int .i64 ep, .int .i64 nu, .int .i64 ki, .slice a n cap, .string da, .string tx]] w fun e w' => e = .returned (.int .i64 (chk ⟨ep, nu, ki, xs, da, tx⟩)) ∧ Below w.heap.size w w' := by
  by_cases hz : hB ⟨ep, nu, ki, xs, da, tx⟩ = 0
  · have hk : ki = 1 ∨ ki = 2 ∨ ki = 3 := by
      obtain ⟨_, _, _, _, h1 | h1 | h1⟩ := hB_ok hz
      · exact .inl h1.1
      · exact .inr (.inl h1.1)
      · exact .inr (.inr h1.1)
    rcases hk with rfl | rfl | rfl
    · skip
      have hc := fun w (h : Sl w a n xs) => checkHead_any ep nu 1 a n cap xs da tx w h ht
      have hS := h.later (below_alloc w (.cells #[.int .i64 ep, .int .i64 nu, .int .i64 1, .slice a n cap, .string da, .string tx] 24))
      clear h
      rw [hz] at hc
      go_enter Tryd.func14, Tryd.ntmps14
      go_wp2_with fail
      refine (hc _ hS).mono ?_
      rintro e w1 ⟨rfl, b1⟩
      have BB := (below_alloc w _).trans (b1.mono (by simp))
      have X0 := (boxR w ep nu 1 (.slice a n cap) da tx 24).later (b1.mono (by simp))
      have c0 := X0.c0
      have c1 := X0.c1
      have c2 := X0.c2
      have c3 := X0.c3
      have c5 := X0.c5
      have hS1 := hS.later b1
      clear hc hS b1
      obtain ⟨N, hN⟩ : ∃ N : Int, Hid (N = total xs) := ⟨_, rfl⟩
      have hNb : 1 ≤ N ∧ N ≤ 512 := by
        have h1 := need_le hz
        have h2 := h1.2.2 rfl
        have h3 : need ⟨ep, nu, 1, xs, da, tx⟩ = total xs := if_pos rfl
        rw [hN.out, ← h3]
        exact ⟨h2, h1.2.1⟩
      obtain ⟨hN1, hN2⟩ := hNb
      have HC : Hid ((¬ (da.size : Int) = N * 64 → chk ⟨ep, nu, 1, xs, da, tx⟩ = 30) ∧ ((da.size : Int) = N * 64 → chk ⟨ep, nu, 1, xs, da, tx⟩ = 0)) := by
        have hN' := hN.out
        unfold Hid
        unfold chk
        rw [if_pos hz]
        simp only [need, if_pos, ← hN']
        rw [if_neg (by omega)]
        exact ⟨fun h => if_neg h, fun h => if_pos h⟩
      have hxs : allB xs = true ∧ xs.length ≤ 64 := by
        obtain ⟨_, _, _, _, h1 | h1 | h1⟩ := hB_ok hz
        · exact ⟨h1.2.2.2.2.1, h1.2.2.2.1⟩
        · exact absurd h1.1 (by simp)
        · exact absurd h1.1 (by simp)
      have hcl : ∀ p : Later w1, _ := fun p => total_any ep nu 1 a n cap xs da tx p.val (hS1.later p.below) hxs.1 (by have := hS1.len; omega)
      rw [← hN.out] at hcl
      clear hxs hN hz
      have hfi := fun w => fld1 (.func (.func 48) #[] #[]) (.func (.func 49) #[] #[]) (.func (.func 50) #[] #[]) (.func (.func 51) #[] #[]) w
      have q0 : ∀ p : Later (w1), p.val.cell? ⟨w.heap.size, 0, none⟩ = some (.int .i64 ep) := fun p => (X0.later (p.below.mono X0.lt)).c0
      have q1 : ∀ p : Later (w1), p.val.cell? ⟨w.heap.size, 1, none⟩ = some (.int .i64 nu) := fun p => (X0.later (p.below.mono X0.lt)).c1
      have q2 : ∀ p : Later (w1), p.val.cell? ⟨w.heap.size, 2, none⟩ = some (.int .i64 1) := fun p => (X0.later (p.below.mono X0.lt)).c2
      have q3 : ∀ p : Later (w1), p.val.cell? ⟨w.heap.size, 3, none⟩ = some (.slice a n cap) := fun p => (X0.later (p.below.mono X0.lt)).c3
      have q4 : ∀ p : Later (w1), p.val.cell? ⟨w.heap.size, 4, none⟩ = some (.string da) := fun p => (X0.later (p.below.mono X0.lt)).c4
      have q5 : ∀ p : Later (w1), p.val.cell? ⟨w.heap.size, 5, none⟩ = some (.string tx) := fun p => (X0.later (p.below.mono X0.lt)).c5
      have hne := later_ne w1
      clear X0 hS1 c0 c1 c2 c3 c5
      go_wp2
      refine wp_region_later (by kernel_rfl) (by kernel_rfl) ?_
      (repeat (first | go_big_quiet_skip | (go_big_quiet_want; go_big_quiet_op; go_big_quiet_on)))
      (go_big_quiet_want; go_big_quiet_op; apply Exists.intro; refine ⟨fun p => ?_, ?_⟩; (· exact later_of (needs1 p.val)); go_big_quiet_on)
      (repeat (first | go_big_quiet_skip | (go_big_quiet_want; go_big_quiet_op; go_big_quiet_on)))
      (go_big_quiet_want; go_big_quiet_op; apply Exists.intro; refine ⟨fun p => ?_, ?_⟩; (· exact later_of (hcl p)); go_big_quiet_on)
      (repeat (first | go_big_quiet_skip | (go_big_quiet_want; go_big_quiet_op; go_big_quiet_on)))
      refine wpQuiet_nil ?_
      rintro _ ⟨p, rfl⟩
      have BF := BB.trans (p.below.mono BB.size)
      have c4 := q4 p
      clear hcl q0 q1 q2 q3 q4 q5 hne hfi
      by_cases hd : (da.size : Int) = N * 64
      · have e1 : Hid (chk ⟨ep, nu, 1, xs, da, tx⟩ = 0) := HC.out.2 hd
        have hw : IntKind.i64.wrap (N * 64) = (da.size : Int) := by rw [hd]; exact wrap64_id (by omega) (by omega)
        clear HC
        go_wp2
        go_ret
        exact ⟨ret_int e1.out.symm, BF⟩
      · have e1 : Hid (chk ⟨ep, nu, 1, xs, da, tx⟩ = 30) := HC.out.1 hd
        clear HC
        go_wp2
        go_ret
        exact ⟨ret_int e1.out.symm, BF⟩
    · skip
      have hc := fun w (h : Sl w a n xs) => checkHead_any ep nu 2 a n cap xs da tx w h ht
      have hS := h.later (below_alloc w (.cells #[.int .i64 ep, .int .i64 nu, .int .i64 2, .slice a n cap, .string da, .string tx] 24))
      clear h
      rw [hz] at hc
      go_enter Tryd.func14, Tryd.ntmps14
      go_wp2_with fail
      refine (hc _ hS).mono ?_
      rintro e w1 ⟨rfl, b1⟩
      have BB := (below_alloc w _).trans (b1.mono (by simp))
      have X0 := (boxR w ep nu 2 (.slice a n cap) da tx 24).later (b1.mono (by simp))
      have c0 := X0.c0
      have c1 := X0.c1
      have c2 := X0.c2
      have c3 := X0.c3
      have c5 := X0.c5
      have hS1 := hS.later b1
      clear hc hS b1
      have HC : Hid ((0 < da.size → chk ⟨ep, nu, 2, xs, da, tx⟩ = 1) ∧ (da.size = 0 → chk ⟨ep, nu, 2, xs, da, tx⟩ = 0)) := by
        unfold Hid
        unfold chk
        rw [if_pos hz]
        have hn : need ⟨ep, nu, 2, xs, da, tx⟩ = 0 := by unfold need; exact if_neg (by simp)
        rw [hn]
        exact ⟨fun h => if_pos ⟨rfl, h⟩, fun h => by rw [if_neg (by simp only; omega)]; exact if_pos (by simp only; omega)⟩
      have hcl : ∀ p : Later w1, _ := fun p => noData_any ep nu 2 (.slice a n cap) da tx p.val
      clear hz
      have hfi := fun w => fld1 (.func (.func 52) #[] #[]) (.func (.func 53) #[] #[]) (.func (.func 54) #[] #[]) (.func (.func 55) #[] #[]) w
      have q0 : ∀ p : Later (w1), p.val.cell? ⟨w.heap.size, 0, none⟩ = some (.int .i64 ep) := fun p => (X0.later (p.below.mono X0.lt)).c0
      have q1 : ∀ p : Later (w1), p.val.cell? ⟨w.heap.size, 1, none⟩ = some (.int .i64 nu) := fun p => (X0.later (p.below.mono X0.lt)).c1
      have q2 : ∀ p : Later (w1), p.val.cell? ⟨w.heap.size, 2, none⟩ = some (.int .i64 2) := fun p => (X0.later (p.below.mono X0.lt)).c2
      have q3 : ∀ p : Later (w1), p.val.cell? ⟨w.heap.size, 3, none⟩ = some (.slice a n cap) := fun p => (X0.later (p.below.mono X0.lt)).c3
      have q4 : ∀ p : Later (w1), p.val.cell? ⟨w.heap.size, 4, none⟩ = some (.string da) := fun p => (X0.later (p.below.mono X0.lt)).c4
      have q5 : ∀ p : Later (w1), p.val.cell? ⟨w.heap.size, 5, none⟩ = some (.string tx) := fun p => (X0.later (p.below.mono X0.lt)).c5
      have hne := later_ne w1
      clear X0 hS1 c0 c1 c2 c3 c5
      go_wp2
      refine wp_region_later (by kernel_rfl) (by kernel_rfl) ?_
      (repeat (first | go_big_quiet_skip | (go_big_quiet_want; go_big_quiet_op; go_big_quiet_on)))
      (go_big_quiet_want; go_big_quiet_op; apply Exists.intro; refine ⟨fun p => ?_, ?_⟩; (· exact later_of (needs2 p.val)); go_big_quiet_on)
      (repeat (first | go_big_quiet_skip | (go_big_quiet_want; go_big_quiet_op; go_big_quiet_on)))
      (go_big_quiet_want; go_big_quiet_op; apply Exists.intro; refine ⟨fun p => ?_, ?_⟩; (· exact later_of (hcl p)); go_big_quiet_on)
      (repeat (first | go_big_quiet_skip | (go_big_quiet_want; go_big_quiet_op; go_big_quiet_on)))
      refine wpQuiet_nil ?_
      rintro _ ⟨p, rfl⟩
      have BF := BB.trans (p.below.mono BB.size)
      have c4 := q4 p
      clear hcl q0 q1 q2 q3 q4 q5 hne hfi
      by_cases hd : 0 < da.size
      · have e1 : Hid (chk ⟨ep, nu, 2, xs, da, tx⟩ = 1) := HC.out.1 hd
        have hne := isEmpty_no hd
        have hnt := not_empty hd
        clear HC
        go_wp2
        go_ret
        exact ⟨ret_int e1.out.symm, BF⟩
      · have e1 : Hid (chk ⟨ep, nu, 2, xs, da, tx⟩ = 0) := HC.out.2 (by omega)
        obtain rfl : da = ⟨#[]⟩ := empty_tx (by omega)
        clear HC
        go_wp2
        go_ret
        exact ⟨ret_int e1.out.symm, BF⟩
    · skip
      have hc := fun w (h : Sl w a n xs) => checkHead_any ep nu 3 a n cap xs da tx w h ht
      have hS := h.later (below_alloc w (.cells #[.int .i64 ep, .int .i64 nu, .int .i64 3, .slice a n cap, .string da, .string tx] 24))
      clear h
      rw [hz] at hc
      go_enter Tryd.func14, Tryd.ntmps14
      go_wp2_with fail
      refine (hc _ hS).mono ?_
      rintro e w1 ⟨rfl, b1⟩
      have BB := (below_alloc w _).trans (b1.mono (by simp))
      have X0 := (boxR w ep nu 3 (.slice a n cap) da tx 24).later (b1.mono (by simp))
      have c0 := X0.c0
      have c1 := X0.c1
      have c2 := X0.c2
      have c3 := X0.c3
      have c5 := X0.c5
      have hS1 := hS.later b1
      clear hc hS b1
      have HC : Hid ((0 < da.size → chk ⟨ep, nu, 3, xs, da, tx⟩ = 1) ∧ (da.size = 0 → chk ⟨ep, nu, 3, xs, da, tx⟩ = 0)) := by
        unfold Hid
        unfold chk
        rw [if_pos hz]
        have hn : need ⟨ep, nu, 3, xs, da, tx⟩ = 0 := by unfold need; exact if_neg (by simp)
        rw [hn]
        exact ⟨fun h => if_pos ⟨rfl, h⟩, fun h => by rw [if_neg (by simp only; omega)]; exact if_pos (by simp only; omega)⟩
      have hcl : ∀ p : Later w1, _ := fun p => noData_any ep nu 3 (.slice a n cap) da tx p.val
      clear hz
      have hfi := fun w => fld1 (.func (.func 56) #[] #[]) (.func (.func 53) #[] #[]) (.func (.func 57) #[] #[]) (.func (.func 58) #[] #[]) w
      have q0 : ∀ p : Later (w1), p.val.cell? ⟨w.heap.size, 0, none⟩ = some (.int .i64 ep) := fun p => (X0.later (p.below.mono X0.lt)).c0
      have q1 : ∀ p : Later (w1), p.val.cell? ⟨w.heap.size, 1, none⟩ = some (.int .i64 nu) := fun p => (X0.later (p.below.mono X0.lt)).c1
      have q2 : ∀ p : Later (w1), p.val.cell? ⟨w.heap.size, 2, none⟩ = some (.int .i64 3) := fun p => (X0.later (p.below.mono X0.lt)).c2
      have q3 : ∀ p : Later (w1), p.val.cell? ⟨w.heap.size, 3, none⟩ = some (.slice a n cap) := fun p => (X0.later (p.below.mono X0.lt)).c3
      have q4 : ∀ p : Later (w1), p.val.cell? ⟨w.heap.size, 4, none⟩ = some (.string da) := fun p => (X0.later (p.below.mono X0.lt)).c4
      have q5 : ∀ p : Later (w1), p.val.cell? ⟨w.heap.size, 5, none⟩ = some (.string tx) := fun p => (X0.later (p.below.mono X0.lt)).c5
      have hne := later_ne w1
      clear X0 hS1 c0 c1 c2 c3 c5
      go_wp2
      refine wp_region_later (by kernel_rfl) (by kernel_rfl) ?_
      (repeat (first | go_big_quiet_skip | (go_big_quiet_want; go_big_quiet_op; go_big_quiet_on)))
      (go_big_quiet_want; go_big_quiet_op; apply Exists.intro; refine ⟨fun p => ?_, ?_⟩; (· exact later_of (needs3 p.val)); go_big_quiet_on)
      (repeat (first | go_big_quiet_skip | (go_big_quiet_want; go_big_quiet_op; go_big_quiet_on)))
      (go_big_quiet_want; go_big_quiet_op; apply Exists.intro; refine ⟨fun p => ?_, ?_⟩; (· exact later_of (hcl p)); go_big_quiet_on)
      (repeat (first | go_big_quiet_skip | (go_big_quiet_want; go_big_quiet_op; go_big_quiet_on)))
      refine wpQuiet_nil ?_
      rintro _ ⟨p, rfl⟩
      have BF := BB.trans (p.below.mono BB.size)
      have c4 := q4 p
      clear hcl q0 q1 q2 q3 q4 q5 hne hfi
      by_cases hd : 0 < da.size
      · have e1 : Hid (chk ⟨ep, nu, 3, xs, da, tx⟩ = 1) := HC.out.1 hd
        have hne := isEmpty_no hd
        have hnt := not_empty hd
        clear HC
        go_wp2
        go_ret
        exact ⟨ret_int e1.out.symm, BF⟩
      · have e1 : Hid (chk ⟨ep, nu, 3, xs, da, tx⟩ = 0) := HC.out.2 (by omega)
        obtain rfl : da = ⟨#[]⟩ := empty_tx (by omega)
        clear HC
        go_wp2
        go_ret
        exact ⟨ret_int e1.out.symm, BF⟩
  · have e1 : chk ⟨ep, nu, ki, xs, da, tx⟩ = hB ⟨ep, nu, ki, xs, da, tx⟩ := if_neg hz
    rw [e1]
    clear e1
    have hc := fun w (h : Sl w a n xs) => checkHead_any ep nu ki a n cap xs da tx w h ht
    have hS := h.later (below_alloc w (.cells #[.int .i64 ep, .int .i64 nu, .int .i64 ki, .slice a n cap, .string da, .string tx] 24))
    clear h
    generalize hB ⟨ep, nu, ki, xs, da, tx⟩ = X at *
    go_enter Tryd.func14, Tryd.ntmps14
    go_wp2_with fail
    refine (hc _ hS).mono ?_
    rintro e w1 ⟨rfl, b1⟩
    have BB := (below_alloc w _).trans (b1.mono (by simp))
    clear hc hS b1
    go_wp2
    go_ret
    exact ⟨rfl, BB⟩
end Re
end Go.Proofs.YtnpbgjafahhadaaDoor
