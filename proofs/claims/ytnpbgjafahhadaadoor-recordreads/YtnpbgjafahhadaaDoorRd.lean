/- What is wrong with all of a record but its data. -/
import Derived.Test.YtnpbgjafahhadaaDoorRc
import Derived.StillTail
namespace Go.Proofs.YtnpbgjafahhadaaDoor
open Go.RowKit
namespace Re
open Cr
set_option maxHeartbeats 4000000 in
set_option maxRecDepth 20000 in
theorem checkHead_any (ep nu ki : Int) (a : Option Addr) (n cap : Nat) (xs : List (Int × Int)) (da tx : ByteArray) (w : World) (h : Sl w a n xs) (ht : tx.size ≤ 9223372036854775807) :
    Calls Tryd.prog 28 #[.agg #[.int .i64 ep, .int .i64 nu, .int .i64 ki, .slice a n cap, .string da, .string tx]] w fun e w' => e = .returned (.int .i64 (hB ⟨ep, nu, ki, xs, da, tx⟩)) ∧ Below w.heap.size w w' := by
  by_cases f0 : ep < 0
  · skip
    have e1 : hB ⟨ep, nu, ki, xs, da, tx⟩ = 31 := by unfold hB; exact if_pos (by simp only; omega)
    rw [e1]
    clear e1 h
    go_enter Tryd.func28, Tryd.ntmps28
    go_wp2
    go_ret
    exact ⟨rfl, below_alloc _ _⟩
  · skip
    by_cases f1 : 4294967296 ≤ ep
    · skip
      have e1 : hB ⟨ep, nu, ki, xs, da, tx⟩ = 31 := by unfold hB; exact if_pos (by simp only; omega)
      rw [e1]
      clear e1 h
      go_enter Tryd.func28, Tryd.ntmps28
      go_wp2
      go_ret
      exact ⟨rfl, below_alloc _ _⟩
    · skip
      by_cases f2 : nu < 0
      · skip
        have e1 : hB ⟨ep, nu, ki, xs, da, tx⟩ = 31 := by unfold hB; exact if_pos (by simp only; omega)
        rw [e1]
        clear e1 h
        go_enter Tryd.func28, Tryd.ntmps28
        go_wp2
        go_ret
        exact ⟨rfl, below_alloc _ _⟩
      · skip
        by_cases f3 : 1099511627776 ≤ nu
        · skip
          have e1 : hB ⟨ep, nu, ki, xs, da, tx⟩ = 31 := by unfold hB; exact if_pos (by simp only; omega)
          rw [e1]
          clear e1 h
          go_enter Tryd.func28, Tryd.ntmps28
          go_wp2
          go_ret
          exact ⟨rfl, below_alloc _ _⟩
        · skip
          by_cases g1 : ki = 1
          · subst g1
            have e1 : hB ⟨ep, nu, 1, xs, da, tx⟩ = wB ⟨ep, nu, 1, xs, da, tx⟩ := by
              unfold hB
              rw [if_neg (by simp only; omega)]
              unfold kB
              simp only
              exact if_pos trivial
            rw [e1]
            clear e1
            obtain ⟨X, hX⟩ : ∃ X : Int, Hid (X = wB ⟨ep, nu, 1, xs, da, tx⟩) := ⟨_, rfl⟩
            have hS := h.later (below_alloc w (.cells #[.int .i64 ep, .int .i64 nu, .int .i64 1, .slice a n cap, .string da, .string tx] 24))
            clear h
            have X0 := boxR w ep nu 1 (.slice a n cap) da tx 24
            have q0 : ∀ p : Later (w.alloc (.cells #[.int .i64 ep, .int .i64 nu, .int .i64 1, .slice a n cap, .string da, .string tx] 24)), p.val.cell? ⟨w.heap.size, 0, none⟩ = some (.int .i64 ep) := fun p => (X0.later (p.below.mono X0.lt)).c0
            have q1 : ∀ p : Later (w.alloc (.cells #[.int .i64 ep, .int .i64 nu, .int .i64 1, .slice a n cap, .string da, .string tx] 24)), p.val.cell? ⟨w.heap.size, 1, none⟩ = some (.int .i64 nu) := fun p => (X0.later (p.below.mono X0.lt)).c1
            have q2 : ∀ p : Later (w.alloc (.cells #[.int .i64 ep, .int .i64 nu, .int .i64 1, .slice a n cap, .string da, .string tx] 24)), p.val.cell? ⟨w.heap.size, 2, none⟩ = some (.int .i64 1) := fun p => (X0.later (p.below.mono X0.lt)).c2
            have q3 : ∀ p : Later (w.alloc (.cells #[.int .i64 ep, .int .i64 nu, .int .i64 1, .slice a n cap, .string da, .string tx] 24)), p.val.cell? ⟨w.heap.size, 3, none⟩ = some (.slice a n cap) := fun p => (X0.later (p.below.mono X0.lt)).c3
            have q4 : ∀ p : Later (w.alloc (.cells #[.int .i64 ep, .int .i64 nu, .int .i64 1, .slice a n cap, .string da, .string tx] 24)), p.val.cell? ⟨w.heap.size, 4, none⟩ = some (.string da) := fun p => (X0.later (p.below.mono X0.lt)).c4
            have q5 : ∀ p : Later (w.alloc (.cells #[.int .i64 ep, .int .i64 nu, .int .i64 1, .slice a n cap, .string da, .string tx] 24)), p.val.cell? ⟨w.heap.size, 5, none⟩ = some (.string tx) := fun p => (X0.later (p.below.mono X0.lt)).c5
            have hne := later_ne (w.alloc (.cells #[.int .i64 ep, .int .i64 nu, .int .i64 1, .slice a n cap, .string da, .string tx] 24))
            have hcl : ∀ p : Later (w.alloc (.cells #[.int .i64 ep, .int .i64 nu, .int .i64 1, .slice a n cap, .string da, .string tx] 24)), _ := fun p => checkWrite_any ep nu 1 a n cap xs da tx p.val (hS.later p.below) ht
            rw [← hX.out] at hcl ⊢
            clear hX
            clear X0 hS
            have hfi := fun w => fld0 (.func (.func 48) #[] #[]) (.func (.func 49) #[] #[]) (.func (.func 50) #[] #[]) (.func (.func 51) #[] #[]) w
            go_enter Tryd.func28, Tryd.ntmps28
            go_wp2
            refine wp_region_later (by kernel_rfl) (by kernel_rfl) ?_
            (repeat (first | go_big_quiet_skip | (go_big_quiet_want; go_big_quiet_op; go_big_quiet_on)))
            (go_big_quiet_want; go_big_quiet_op; apply Exists.intro; refine ⟨fun p => ?_, ?_⟩; (· exact later_of (needs1 p.val)); go_big_quiet_on)
            (repeat (first | go_big_quiet_skip | (go_big_quiet_want; go_big_quiet_op; go_big_quiet_on)))
            (go_big_quiet_want; go_big_quiet_op; apply Exists.intro; refine ⟨fun p => ?_, ?_⟩; (· exact later_of (hcl p)); go_big_quiet_on)
            (repeat (first | go_big_quiet_skip | (go_big_quiet_want; go_big_quiet_op; go_big_quiet_on)))
            refine wpQuiet_nil ?_
            rintro _ ⟨p, rfl⟩
            have BF := (below_alloc w _).trans (p.below.mono (by simp))
            clear hcl q0 q1 q2 q3 q4 q5 hne
            go_wp2
            go_ret
            exact ⟨rfl, BF⟩
          · by_cases g2 : ki = 2
            · subst g2
              have e1 : hB ⟨ep, nu, 2, xs, da, tx⟩ = tB ⟨ep, nu, 2, xs, da, tx⟩ := by
                unfold hB
                rw [if_neg (by simp only; omega)]
                unfold kB
                simp only
                rw [if_neg (by omega)]
                exact if_pos trivial
              rw [e1]
              clear e1
              obtain ⟨X, hX⟩ : ∃ X : Int, Hid (X = tB ⟨ep, nu, 2, xs, da, tx⟩) := ⟨_, rfl⟩
              have hS := h.later (below_alloc w (.cells #[.int .i64 ep, .int .i64 nu, .int .i64 2, .slice a n cap, .string da, .string tx] 24))
              clear h
              have X0 := boxR w ep nu 2 (.slice a n cap) da tx 24
              have q0 : ∀ p : Later (w.alloc (.cells #[.int .i64 ep, .int .i64 nu, .int .i64 2, .slice a n cap, .string da, .string tx] 24)), p.val.cell? ⟨w.heap.size, 0, none⟩ = some (.int .i64 ep) := fun p => (X0.later (p.below.mono X0.lt)).c0
              have q1 : ∀ p : Later (w.alloc (.cells #[.int .i64 ep, .int .i64 nu, .int .i64 2, .slice a n cap, .string da, .string tx] 24)), p.val.cell? ⟨w.heap.size, 1, none⟩ = some (.int .i64 nu) := fun p => (X0.later (p.below.mono X0.lt)).c1
              have q2 : ∀ p : Later (w.alloc (.cells #[.int .i64 ep, .int .i64 nu, .int .i64 2, .slice a n cap, .string da, .string tx] 24)), p.val.cell? ⟨w.heap.size, 2, none⟩ = some (.int .i64 2) := fun p => (X0.later (p.below.mono X0.lt)).c2
              have q3 : ∀ p : Later (w.alloc (.cells #[.int .i64 ep, .int .i64 nu, .int .i64 2, .slice a n cap, .string da, .string tx] 24)), p.val.cell? ⟨w.heap.size, 3, none⟩ = some (.slice a n cap) := fun p => (X0.later (p.below.mono X0.lt)).c3
              have q4 : ∀ p : Later (w.alloc (.cells #[.int .i64 ep, .int .i64 nu, .int .i64 2, .slice a n cap, .string da, .string tx] 24)), p.val.cell? ⟨w.heap.size, 4, none⟩ = some (.string da) := fun p => (X0.later (p.below.mono X0.lt)).c4
              have q5 : ∀ p : Later (w.alloc (.cells #[.int .i64 ep, .int .i64 nu, .int .i64 2, .slice a n cap, .string da, .string tx] 24)), p.val.cell? ⟨w.heap.size, 5, none⟩ = some (.string tx) := fun p => (X0.later (p.below.mono X0.lt)).c5
              have hne := later_ne (w.alloc (.cells #[.int .i64 ep, .int .i64 nu, .int .i64 2, .slice a n cap, .string da, .string tx] 24))
              have hcl : ∀ p : Later (w.alloc (.cells #[.int .i64 ep, .int .i64 nu, .int .i64 2, .slice a n cap, .string da, .string tx] 24)), _ := fun p => checkTrim_any ep nu 2 a n cap xs da tx p.val (hS.later p.below) ht
              rw [← hX.out] at hcl ⊢
              clear hX
              clear X0 hS
              have hfi := fun w => fld0 (.func (.func 52) #[] #[]) (.func (.func 53) #[] #[]) (.func (.func 54) #[] #[]) (.func (.func 55) #[] #[]) w
              go_enter Tryd.func28, Tryd.ntmps28
              go_wp2
              refine wp_region_later (by kernel_rfl) (by kernel_rfl) ?_
              (repeat (first | go_big_quiet_skip | (go_big_quiet_want; go_big_quiet_op; go_big_quiet_on)))
              (go_big_quiet_want; go_big_quiet_op; apply Exists.intro; refine ⟨fun p => ?_, ?_⟩; (· exact later_of (needs2 p.val)); go_big_quiet_on)
              (repeat (first | go_big_quiet_skip | (go_big_quiet_want; go_big_quiet_op; go_big_quiet_on)))
              (go_big_quiet_want; go_big_quiet_op; apply Exists.intro; refine ⟨fun p => ?_, ?_⟩; (· exact later_of (hcl p)); go_big_quiet_on)
              (repeat (first | go_big_quiet_skip | (go_big_quiet_want; go_big_quiet_op; go_big_quiet_on)))
              refine wpQuiet_nil ?_
              rintro _ ⟨p, rfl⟩
              have BF := (below_alloc w _).trans (p.below.mono (by simp))
              clear hcl q0 q1 q2 q3 q4 q5 hne
              go_wp2
              go_ret
              exact ⟨rfl, BF⟩
            · by_cases g3 : ki = 3
              · subst g3
                have e1 : hB ⟨ep, nu, 3, xs, da, tx⟩ = nB ⟨ep, nu, 3, xs, da, tx⟩ := by
                  unfold hB
                  rw [if_neg (by simp only; omega)]
                  unfold kB
                  simp only
                  rw [if_neg (by omega), if_neg (by omega)]
                  exact if_pos trivial
                rw [e1]
                clear e1
                obtain ⟨X, hX⟩ : ∃ X : Int, Hid (X = nB ⟨ep, nu, 3, xs, da, tx⟩) := ⟨_, rfl⟩
                have hS := h.later (below_alloc w (.cells #[.int .i64 ep, .int .i64 nu, .int .i64 3, .slice a n cap, .string da, .string tx] 24))
                clear h
                have X0 := boxR w ep nu 3 (.slice a n cap) da tx 24
                have q0 : ∀ p : Later (w.alloc (.cells #[.int .i64 ep, .int .i64 nu, .int .i64 3, .slice a n cap, .string da, .string tx] 24)), p.val.cell? ⟨w.heap.size, 0, none⟩ = some (.int .i64 ep) := fun p => (X0.later (p.below.mono X0.lt)).c0
                have q1 : ∀ p : Later (w.alloc (.cells #[.int .i64 ep, .int .i64 nu, .int .i64 3, .slice a n cap, .string da, .string tx] 24)), p.val.cell? ⟨w.heap.size, 1, none⟩ = some (.int .i64 nu) := fun p => (X0.later (p.below.mono X0.lt)).c1
                have q2 : ∀ p : Later (w.alloc (.cells #[.int .i64 ep, .int .i64 nu, .int .i64 3, .slice a n cap, .string da, .string tx] 24)), p.val.cell? ⟨w.heap.size, 2, none⟩ = some (.int .i64 3) := fun p => (X0.later (p.below.mono X0.lt)).c2
                have q3 : ∀ p : Later (w.alloc (.cells #[.int .i64 ep, .int .i64 nu, .int .i64 3, .slice a n cap, .string da, .string tx] 24)), p.val.cell? ⟨w.heap.size, 3, none⟩ = some (.slice a n cap) := fun p => (X0.later (p.below.mono X0.lt)).c3
                have q4 : ∀ p : Later (w.alloc (.cells #[.int .i64 ep, .int .i64 nu, .int .i64 3, .slice a n cap, .string da, .string tx] 24)), p.val.cell? ⟨w.heap.size, 4, none⟩ = some (.string da) := fun p => (X0.later (p.below.mono X0.lt)).c4
                have q5 : ∀ p : Later (w.alloc (.cells #[.int .i64 ep, .int .i64 nu, .int .i64 3, .slice a n cap, .string da, .string tx] 24)), p.val.cell? ⟨w.heap.size, 5, none⟩ = some (.string tx) := fun p => (X0.later (p.below.mono X0.lt)).c5
                have hne := later_ne (w.alloc (.cells #[.int .i64 ep, .int .i64 nu, .int .i64 3, .slice a n cap, .string da, .string tx] 24))
                have hcl : ∀ p : Later (w.alloc (.cells #[.int .i64 ep, .int .i64 nu, .int .i64 3, .slice a n cap, .string da, .string tx] 24)), _ := fun p => checkNote_any ep nu 3 a n cap xs da tx p.val (hS.later p.below)
                rw [← hX.out] at hcl ⊢
                clear hX
                clear X0 hS
                have hfi := fun w => fld0 (.func (.func 56) #[] #[]) (.func (.func 53) #[] #[]) (.func (.func 57) #[] #[]) (.func (.func 58) #[] #[]) w
                go_enter Tryd.func28, Tryd.ntmps28
                go_wp2
                refine wp_region_later (by kernel_rfl) (by kernel_rfl) ?_
                (repeat (first | go_big_quiet_skip | (go_big_quiet_want; go_big_quiet_op; go_big_quiet_on)))
                (go_big_quiet_want; go_big_quiet_op; apply Exists.intro; refine ⟨fun p => ?_, ?_⟩; (· exact later_of (needs3 p.val)); go_big_quiet_on)
                (repeat (first | go_big_quiet_skip | (go_big_quiet_want; go_big_quiet_op; go_big_quiet_on)))
                (go_big_quiet_want; go_big_quiet_op; apply Exists.intro; refine ⟨fun p => ?_, ?_⟩; (· exact later_of (hcl p)); go_big_quiet_on)
                (repeat (first | go_big_quiet_skip | (go_big_quiet_want; go_big_quiet_op; go_big_quiet_on)))
                refine wpQuiet_nil ?_
                rintro _ ⟨p, rfl⟩
                have BF := (below_alloc w _).trans (p.below.mono (by simp))
                clear hcl q0 q1 q2 q3 q4 q5 hne
                go_wp2
                go_ret
                exact ⟨rfl, BF⟩
              · skip
                have e1 : hB ⟨ep, nu, ki, xs, da, tx⟩ = 14 := by
                  unfold hB
                  rw [if_neg (by simp only; omega)]
                  unfold kB
                  simp only
                  rw [if_neg g1, if_neg g2]
                  exact if_neg g3
                rw [e1]
                clear e1
                have hS := h.later (below_alloc w (.cells #[.int .i64 ep, .int .i64 nu, .int .i64 ki, .slice a n cap, .string da, .string tx] 24))
                clear h
                have X0 := boxR w ep nu ki (.slice a n cap) da tx 24
                have q0 : ∀ p : Later (w.alloc (.cells #[.int .i64 ep, .int .i64 nu, .int .i64 ki, .slice a n cap, .string da, .string tx] 24)), p.val.cell? ⟨w.heap.size, 0, none⟩ = some (.int .i64 ep) := fun p => (X0.later (p.below.mono X0.lt)).c0
                have q1 : ∀ p : Later (w.alloc (.cells #[.int .i64 ep, .int .i64 nu, .int .i64 ki, .slice a n cap, .string da, .string tx] 24)), p.val.cell? ⟨w.heap.size, 1, none⟩ = some (.int .i64 nu) := fun p => (X0.later (p.below.mono X0.lt)).c1
                have q2 : ∀ p : Later (w.alloc (.cells #[.int .i64 ep, .int .i64 nu, .int .i64 ki, .slice a n cap, .string da, .string tx] 24)), p.val.cell? ⟨w.heap.size, 2, none⟩ = some (.int .i64 ki) := fun p => (X0.later (p.below.mono X0.lt)).c2
                have q3 : ∀ p : Later (w.alloc (.cells #[.int .i64 ep, .int .i64 nu, .int .i64 ki, .slice a n cap, .string da, .string tx] 24)), p.val.cell? ⟨w.heap.size, 3, none⟩ = some (.slice a n cap) := fun p => (X0.later (p.below.mono X0.lt)).c3
                have q4 : ∀ p : Later (w.alloc (.cells #[.int .i64 ep, .int .i64 nu, .int .i64 ki, .slice a n cap, .string da, .string tx] 24)), p.val.cell? ⟨w.heap.size, 4, none⟩ = some (.string da) := fun p => (X0.later (p.below.mono X0.lt)).c4
                have q5 : ∀ p : Later (w.alloc (.cells #[.int .i64 ep, .int .i64 nu, .int .i64 ki, .slice a n cap, .string da, .string tx] 24)), p.val.cell? ⟨w.heap.size, 5, none⟩ = some (.string tx) := fun p => (X0.later (p.below.mono X0.lt)).c5
                have hne := later_ne (w.alloc (.cells #[.int .i64 ep, .int .i64 nu, .int .i64 ki, .slice a n cap, .string da, .string tx] 24))
                have hcl : ∀ p : Later (w.alloc (.cells #[.int .i64 ep, .int .i64 nu, .int .i64 ki, .slice a n cap, .string da, .string tx] 24)), _ := fun p => noKind_any ep nu ki (.slice a n cap) da tx p.val
                clear X0 hS
                have hfi := fun w => fld0 (.func (.func 59) #[] #[]) .nilFunc .nilFunc (.func (.func 60) #[] #[]) w
                go_enter Tryd.func28, Tryd.ntmps28
                go_wp2
                refine wp_region_later (by kernel_rfl) (by kernel_rfl) ?_
                (repeat (first | go_big_quiet_skip | (go_big_quiet_want; go_big_quiet_op; go_big_quiet_on)))
                (go_big_quiet_want; go_big_quiet_op; apply Exists.intro; refine ⟨fun p => ?_, ?_⟩; (· exact later_of (needsX g1 g2 g3 p.val)); go_big_quiet_on)
                (repeat (first | go_big_quiet_skip | (go_big_quiet_want; go_big_quiet_op; go_big_quiet_on)))
                (go_big_quiet_want; go_big_quiet_op; apply Exists.intro; refine ⟨fun p => ?_, ?_⟩; (· exact later_of (hcl p)); go_big_quiet_on)
                (repeat (first | go_big_quiet_skip | (go_big_quiet_want; go_big_quiet_op; go_big_quiet_on)))
                refine wpQuiet_nil ?_
                rintro _ ⟨p, rfl⟩
                have BF := (below_alloc w _).trans (p.below.mono (by simp))
                clear hcl q0 q1 q2 q3 q4 q5 hne
                go_wp2
                go_ret
                exact ⟨rfl, BF⟩
end Re
end Go.Proofs.YtnpbgjafahhadaaDoor
