/- What the document's check of a record answers. -/
import Derived.Test.YtnpbgjafahhadaaDoorRc
namespace Go.Proofs.YtnpbgjafahhadaaDoor
open Go.RowKit
namespace Re
open Cr
/-- What is wrong with a record, as the document tells it. -/
def chkD (r : Rc) : Int :=
  if r.ep < 0 ∨ 4294967296 ≤ r.ep ∨ r.nu < 0 ∨ 1099511627776 ≤ r.nu then 31
  else if r.ki < 1 ∨ 3 < r.ki then 14
  else if r.ki = 3 then (if 0 < r.sp.length ∨ 0 < r.da.size ∨ 512 < r.tx.size then 1 else 0)
  else if r.sp.length < 1 ∨ 64 < r.sp.length ∨ 0 < r.tx.size ∨ (r.ki = 2 ∧ 0 < r.da.size) ∨ allB r.sp = false ∨ (r.ki = 1 ∧ 512 < total r.sp) then 1
  else if r.ki = 1 ∧ ¬ (r.da.size : Int) = 64 * total r.sp then 30 else 0
theorem chkD_eq (r : Rc) : chkD r = chk r := by
  have hp : allB r.sp = true → 1 ≤ r.sp.length → 1 ≤ total r.sp := fun h1 h2 => by
    have := (sumTo_pos h1 r.sp.length (Nat.le_refl _)).1
    unfold total
    omega
  unfold chkD chk hB need
  by_cases h1 : r.ep < 0 ∨ 4294967296 ≤ r.ep ∨ r.nu < 0 ∨ 1099511627776 ≤ r.nu
  · rw [if_pos h1, if_pos h1, if_neg (by decide)]
  · rw [if_neg h1, if_neg h1]
    unfold kB
    by_cases k1 : r.ki = 1
    · rw [if_neg (show ¬ (r.ki < 1 ∨ 3 < r.ki) by omega), if_neg (show ¬ r.ki = 3 by omega), if_pos k1, if_pos k1]
      unfold wB tB
      by_cases ht : 0 < r.tx.size ∨ r.sp.length < 1 ∨ 64 < r.sp.length
      · rw [if_pos ht, if_pos (by omega)]
        simp
      · rw [if_neg ht]
        cases ha : allB r.sp
        · simp
        · have := hp ha (by omega)
          by_cases h5 : 512 < total r.sp
          · rw [if_pos (.inr (.inr (.inr (.inr (.inr ⟨k1, h5⟩)))))]
            simp [h5]
          · rw [if_neg (by rintro (h | h | h | h | h | h); omega; omega; omega; omega; exact absurd h (by decide); omega)]
            simp only [if_true, h5, if_false]
            rw [if_neg (show ¬ (total r.sp = 0 ∧ 0 < r.da.size) by omega)]
            by_cases h6 : (r.da.size : Int) = 64 * total r.sp
            · rw [if_neg (by omega), if_pos (by omega)]
            · rw [if_pos ⟨k1, h6⟩, if_neg (by omega)]
    · rw [if_neg k1]
      by_cases k2 : r.ki = 2
      · rw [if_neg (show ¬ (r.ki < 1 ∨ 3 < r.ki) by omega), if_neg (show ¬ r.ki = 3 by omega), if_pos k2, if_neg k1]
        unfold tB
        by_cases ht : 0 < r.tx.size ∨ r.sp.length < 1 ∨ 64 < r.sp.length
        · rw [if_pos ht, if_pos (by omega)]
          simp
        · rw [if_neg ht]
          cases ha : allB r.sp
          · simp
          · by_cases h5 : 0 < r.da.size
            · rw [if_pos (.inr (.inr (.inr (.inl ⟨k2, h5⟩))))]
              simp [h5]
            · rw [if_neg (by rintro (h | h | h | h | h | h); omega; omega; omega; omega; exact absurd h (by decide); omega), if_neg (by omega)]
              simp only [if_true]
              rw [if_neg (by omega), if_pos (by omega)]
      · by_cases k3 : r.ki = 3
        · rw [if_neg (show ¬ (r.ki < 1 ∨ 3 < r.ki) by omega), if_pos k3, if_neg k2, if_pos k3, if_neg k1]
          unfold nB
          by_cases h5 : 0 < r.sp.length ∨ 512 < r.tx.size
          · rw [if_pos (by omega), if_pos h5, if_neg (by decide)]
          · rw [if_neg h5]
            simp only [if_true]
            by_cases h6 : 0 < r.da.size
            · rw [if_pos (by omega), if_pos ⟨trivial, h6⟩]
            · rw [if_neg (by omega), if_neg (by omega), if_pos (by omega)]
        · rw [if_pos (by omega), if_neg k2, if_neg k3, if_neg (by decide)]
theorem rtotal_any (a : Option Addr) (n cap : Nat) (xs : List (Int × Int)) (w : World) (h : Sl w a n xs) (hx : allB xs = true) (hn : n ≤ 1000) :
    Calls Tryd.prog 25 #[.slice a n cap] w fun e w' => e = .returned (.int .i64 (total xs)) ∧ Below w.heap.size w w' := by
  have HL := hide h.len
  have hS := h
  clear h
  go_enter Tryd.func25, Tryd.ntmps25
  go_wp2
  go_loopw [3, 4] (fun s i wr => ∃ k : Nat, k ≤ n ∧ i = .int .i64 k ∧ s = .int .i64 (sumTo xs k) ∧ Below w.heap.size w wr) (fun _ i _ => n - (intOf i).toNat)
  case atStart => exact ⟨0, Nat.zero_le _, rfl, rfl, Below.refl _ _⟩
  case round =>
    obtain ⟨k, hk, rfl, rfl, hb⟩ := hrel
    have hp := sumTo_pos hx k (by have := HL.out; omega)
    by_cases hlt : k < n
    · obtain ⟨b, off, rfl, hbl, c0, c1⟩ := (hS.later hb).cells k (by have := HL.out; omega)
      have hm := mayB_iff.1 (allB_at hx (k := k) (by have := HL.out; omega))
      have HS : Hid (sumTo xs (k + 1) = sumTo xs k + (nth xs k).2) := rfl
      generalize sumTo xs k = S at *
      generalize nth xs k = x at *
      obtain ⟨x1, x2⟩ := x
      simp only at hm c0 c1
      clear hS hx
      go_wp2
      go_roundw
      case rel => exact ⟨k + 1, by omega, by go_num, by rw [HS.out], hb⟩
      case measure => simp [intOf]; omega
    · have HT : Hid (k = xs.length) := by have := HL.out; show k = xs.length; omega
      have HS : Hid (sumTo xs k = total xs) := by unfold total; rw [← HT.out]; rfl
      clear hS hx
      go_wp2
      go_ret
      exact ⟨ret_int HS.out, hb⟩

set_option maxHeartbeats 8000000 in
set_option maxRecDepth 20000 in
theorem rcheck_any (ep nu ki : Int) (a : Option Addr) (n cap : Nat) (xs : List (Int × Int)) (da tx : ByteArray) (w : World) (h : Sl w a n xs) (ht : tx.size ≤ 9223372036854775807) (hd : da.size ≤ 9223372036854775807) :
    Calls Tryd.prog 11 #[.agg #[.int .i64 ep, .int .i64 nu, .int .i64 ki, .slice a n cap, .string da, .string tx]] w fun e w' => e = .returned (.int .i64 (chk ⟨ep, nu, ki, xs, da, tx⟩)) ∧ Below w.heap.size w w' := by
  obtain ⟨X, hX⟩ : ∃ X, Hid (X = chkD ⟨ep, nu, ki, xs, da, tx⟩) := ⟨_, rfl⟩
  rw [← chkD_eq, ← hX.out]
  have HL := hide h.len
  have hn := h.most
  go_enter Tryd.func11, Tryd.ntmps11
  by_cases f0 : ep < 0
  · skip
    obtain rfl : X = 31 := by
      have := hX.out
      unfold chkD at this
      simp only at this
      rw [if_pos (.inl f0)] at this
      exact this
    clear hX
    go_wp2
    go_ret
    exact ⟨rfl, (below_alloc _ _)⟩
  · skip
    by_cases f1 : 4294967296 ≤ ep
    · skip
      obtain rfl : X = 31 := by
        have := hX.out
        unfold chkD at this
        simp only at this
        rw [if_pos (.inr (.inl f1))] at this
        exact this
      clear hX
      go_wp2
      go_ret
      exact ⟨rfl, (below_alloc _ _)⟩
    · skip
      by_cases f2 : nu < 0
      · skip
        obtain rfl : X = 31 := by
          have := hX.out
          unfold chkD at this
          simp only at this
          rw [if_pos (.inr (.inr (.inl f2)))] at this
          exact this
        clear hX
        go_wp2
        go_ret
        exact ⟨rfl, (below_alloc _ _)⟩
      · skip
        by_cases f3 : 1099511627776 ≤ nu
        · skip
          obtain rfl : X = 31 := by
            have := hX.out
            unfold chkD at this
            simp only at this
            rw [if_pos (.inr (.inr (.inr f3)))] at this
            exact this
          clear hX
          go_wp2
          go_ret
          exact ⟨rfl, (below_alloc _ _)⟩
        · skip
          have hR : ¬ (ep < 0 ∨ 4294967296 ≤ ep ∨ nu < 0 ∨ 1099511627776 ≤ nu) := by omega
          by_cases h4 : ki < 1
          · skip
            obtain rfl : X = 14 := by
              have := hX.out
              unfold chkD at this
              simp only at this
              rw [if_neg hR, if_pos (.inl h4)] at this
              exact this
            clear hX
            go_wp2
            go_ret
            exact ⟨rfl, (below_alloc _ _)⟩
          · skip
            by_cases h5 : 3 < ki
            · skip
              obtain rfl : X = 14 := by
                have := hX.out
                unfold chkD at this
                simp only at this
                rw [if_neg hR, if_pos (.inr h5)] at this
                exact this
              clear hX
              go_wp2
              go_ret
              exact ⟨rfl, (below_alloc _ _)⟩
            · skip
              by_cases h5b : ki = 3
              · skip
                subst h5b
                by_cases h6 : 0 < n
                · skip
                  obtain rfl : X = 1 := by
                    have := hX.out
                    unfold chkD at this
                    simp only at this
                    have hL := HL.out
                    rw [if_neg hR, if_neg (by omega), if_pos trivial, if_pos (.inl (by omega))] at this
                    exact this
                  clear hX
                  go_wp2
                  go_ret
                  exact ⟨rfl, (below_alloc _ _)⟩
                · skip
                  by_cases h7 : 0 < da.size
                  · skip
                    have hne := isEmpty_no h7
                    have hnt := not_empty h7
                    obtain rfl : X = 1 := by
                      have := hX.out
                      unfold chkD at this
                      simp only at this
                      have hL := HL.out
                      rw [if_neg hR, if_neg (by omega), if_pos trivial, if_pos (.inr (.inl h7))] at this
                      exact this
                    clear hX
                    go_wp2
                    go_ret
                    exact ⟨rfl, (below_alloc _ _)⟩
                  · skip
                    obtain rfl : da = ⟨#[]⟩ := empty_tx (by omega)
                    by_cases h8 : 512 < tx.size
                    · skip
                      obtain rfl : X = 1 := by
                        have := hX.out
                        unfold chkD at this
                        simp only at this
                        have hL := HL.out
                        rw [if_neg hR, if_neg (by omega), if_pos trivial, if_pos (.inr (.inr h8))] at this
                        exact this
                      clear hX
                      go_wp2
                      go_ret
                      exact ⟨rfl, (below_alloc _ _)⟩
                    · skip
                      obtain rfl : X = 0 := by
                        have := hX.out
                        unfold chkD at this
                        simp only at this
                        have hL := HL.out
                        rw [if_neg hR, if_neg (by omega), if_pos trivial, if_neg (by show ¬ (_ ∨ 0 < 0 ∨ _); omega)] at this
                        exact this
                      clear hX
                      go_wp2
                      go_ret
                      exact ⟨rfl, (below_alloc _ _)⟩
              · skip
                by_cases h6 : n < 1
                · skip
                  obtain rfl : X = 1 := by
                    have := hX.out
                    unfold chkD at this
                    simp only at this
                    have hL := HL.out
                    rw [if_neg hR, if_neg (by omega), if_neg (by omega), if_pos (.inl (by omega))] at this
                    exact this
                  clear hX
                  go_wp2
                  go_ret
                  exact ⟨rfl, (below_alloc _ _)⟩
                · skip
                  by_cases h7 : 64 < n
                  · skip
                    obtain rfl : X = 1 := by
                      have := hX.out
                      unfold chkD at this
                      simp only at this
                      have hL := HL.out
                      rw [if_neg hR, if_neg (by omega), if_neg (by omega), if_pos (.inr (.inl (by omega)))] at this
                      exact this
                    clear hX
                    go_wp2
                    go_ret
                    exact ⟨rfl, (below_alloc _ _)⟩
                  · skip
                    by_cases h8 : 0 < tx.size
                    · skip
                      have hne := isEmpty_no h8
                      have hnt := not_empty h8
                      obtain rfl : X = 1 := by
                        have := hX.out
                        unfold chkD at this
                        simp only at this
                        rw [if_neg hR, if_neg (by omega), if_neg (by omega), if_pos (.inr (.inr (.inl h8)))] at this
                        exact this
                      clear hX
                      go_wp2
                      go_ret
                      exact ⟨rfl, (below_alloc _ _)⟩
                    · skip
                      obtain rfl : tx = ⟨#[]⟩ := empty_tx (by omega)
                      by_cases h9 : ki = 2
                      · skip
                        subst h9
                        by_cases h10 : 0 < da.size
                        · skip
                          have hne2 := isEmpty_no h10
                          have hnt2 := not_empty h10
                          obtain rfl : X = 1 := by
                            have := hX.out
                            unfold chkD at this
                            simp only at this
                            rw [if_neg hR, if_neg (by omega), if_neg (by omega), if_pos (.inr (.inr (.inr (.inl ⟨trivial, h10⟩))))] at this
                            exact this
                          clear hX
                          go_wp2
                          go_ret
                          exact ⟨rfl, (below_alloc _ _)⟩
                        · skip
                          obtain rfl : da = ⟨#[]⟩ := empty_tx (by omega)
                          have hal := fun w (h : Sl w a n xs) => all_any a n cap xs w h
                          have htt := fun hx w (h : Sl w a n xs) => rtotal_any a n cap xs w h hx (by omega)
                          have hS := h.later (below_alloc w (.cells #[.int .i64 ep, .int .i64 nu, .int .i64 2, .slice a n cap, .string ⟨#[]⟩, .string { data := #[] }] 29))
                          have X0 := boxR w ep nu 2 (.slice a n cap) ⟨#[]⟩ ⟨#[]⟩ 29
                          have c0 := X0.c0
                          have c1 := X0.c1
                          have c2 := X0.c2
                          have c3 := X0.c3
                          have c4 := X0.c4
                          have c5 := X0.c5
                          cases ha : allB xs with
                          | false =>
                            rw [ha] at hal
                            go_wp2_with fail
                            refine (hal _ hS).mono ?_
                            rintro e w1 ⟨rfl, b1⟩
                            have BB := (below_alloc w _).trans (b1.mono (by simp))
                            have X1 := X0.later (b1.mono X0.lt)
                            have hS1 := hS.later b1
                            clear hal hS b1 h c0 c1 c2 c3 c4 c5 X0
                            have c0 := X1.c0
                            have c1 := X1.c1
                            have c2 := X1.c2
                            have c3 := X1.c3
                            have c4 := X1.c4
                            have c5 := X1.c5
                            obtain rfl : X = 1 := by
                              have := hX.out
                              unfold chkD at this
                              simp only at this
                              rw [if_neg hR, if_neg (by omega), if_neg (by omega), if_pos (.inr (.inr (.inr (.inr (.inl ha)))))] at this
                              exact this
                            clear hX
                            clear ha htt
                            go_wp2
                            go_ret
                            exact ⟨rfl, BB⟩
                          | true =>
                            rw [ha] at hal
                            go_wp2_with fail
                            refine (hal _ hS).mono ?_
                            rintro e w1 ⟨rfl, b1⟩
                            have BB := (below_alloc w _).trans (b1.mono (by simp))
                            have X1 := X0.later (b1.mono X0.lt)
                            have hS1 := hS.later b1
                            clear hal hS b1 h c0 c1 c2 c3 c4 c5 X0
                            have c0 := X1.c0
                            have c1 := X1.c1
                            have c2 := X1.c2
                            have c3 := X1.c3
                            have c4 := X1.c4
                            have c5 := X1.c5
                            obtain rfl : X = 0 := by
                              have := hX.out
                              unfold chkD at this
                              simp only at this
                              have hL := HL.out
                              rw [if_neg hR, if_neg (by omega), if_neg (by omega), if_neg (by show ¬ (_ ∨ _ ∨ 0 < 0 ∨ _); rintro (h | h | h | h | h | h); omega; omega; omega; exact absurd h.2 (by first | omega | exact Nat.lt_irrefl 0); rw [ha] at h; exact absurd h (by decide); omega), if_neg (by omega)] at this
                              exact this
                            clear hX
                            have q0 : ∀ p : Later (w1), p.val.cell? ⟨w.heap.size, 0, none⟩ = some (.int .i64 ep) := fun p => (X1.later (p.below.mono X1.lt)).c0
                            have q1 : ∀ p : Later (w1), p.val.cell? ⟨w.heap.size, 1, none⟩ = some (.int .i64 nu) := fun p => (X1.later (p.below.mono X1.lt)).c1
                            have q2 : ∀ p : Later (w1), p.val.cell? ⟨w.heap.size, 2, none⟩ = some (.int .i64 2) := fun p => (X1.later (p.below.mono X1.lt)).c2
                            have q3 : ∀ p : Later (w1), p.val.cell? ⟨w.heap.size, 3, none⟩ = some (.slice a n cap) := fun p => (X1.later (p.below.mono X1.lt)).c3
                            have q4 : ∀ p : Later (w1), p.val.cell? ⟨w.heap.size, 4, none⟩ = some (.string ⟨#[]⟩) := fun p => (X1.later (p.below.mono X1.lt)).c4
                            have q5 : ∀ p : Later (w1), p.val.cell? ⟨w.heap.size, 5, none⟩ = some (.string ⟨#[]⟩) := fun p => (X1.later (p.below.mono X1.lt)).c5
                            have hne := later_ne (w1)
                            clear X1
                            go_wp2
                            refine wp_region_later (by kernel_rfl) (by kernel_rfl) ?_
                            (repeat (first | go_big_quiet_skip | (go_big_quiet_want; go_big_quiet_op; go_big_quiet_on)))
                            refine wpQuiet_nil ?_
                            rintro _ ⟨p, rfl⟩
                            have BF := BB.trans (p.below.mono BB.size)
                            clear htt ha q0 q1 q2 q3 q4 q5 hne
                            go_wp2
                            go_ret
                            exact ⟨rfl, BF⟩
                      · skip
                        obtain rfl : ki = 1 := by omega
                        have hal := fun w (h : Sl w a n xs) => all_any a n cap xs w h
                        have htt := fun hx w (h : Sl w a n xs) => rtotal_any a n cap xs w h hx (by omega)
                        have hS := h.later (below_alloc w (.cells #[.int .i64 ep, .int .i64 nu, .int .i64 1, .slice a n cap, .string da, .string { data := #[] }] 29))
                        have X0 := boxR w ep nu 1 (.slice a n cap) da ⟨#[]⟩ 29
                        have c0 := X0.c0
                        have c1 := X0.c1
                        have c2 := X0.c2
                        have c3 := X0.c3
                        have c4 := X0.c4
                        have c5 := X0.c5
                        cases ha : allB xs with
                        | false =>
                          rw [ha] at hal
                          go_wp2_with fail
                          refine (hal _ hS).mono ?_
                          rintro e w1 ⟨rfl, b1⟩
                          have BB := (below_alloc w _).trans (b1.mono (by simp))
                          have X1 := X0.later (b1.mono X0.lt)
                          have hS1 := hS.later b1
                          clear hal hS b1 h c0 c1 c2 c3 c4 c5 X0
                          have c0 := X1.c0
                          have c1 := X1.c1
                          have c2 := X1.c2
                          have c3 := X1.c3
                          have c4 := X1.c4
                          have c5 := X1.c5
                          obtain rfl : X = 1 := by
                            have := hX.out
                            unfold chkD at this
                            simp only at this
                            rw [if_neg hR, if_neg (by omega), if_neg (by omega), if_pos (.inr (.inr (.inr (.inr (.inl ha)))))] at this
                            exact this
                          clear hX
                          clear ha htt
                          go_wp2
                          go_ret
                          exact ⟨rfl, BB⟩
                        | true =>
                          rw [ha] at hal
                          replace htt := htt ha
                          have htp := sumTo_pos ha xs.length (Nat.le_refl _)
                          obtain ⟨T, hT⟩ : ∃ T, Hid (T = total xs) := ⟨_, rfl⟩
                          have htp2 : (1 : Int) ≤ T ∧ T ≤ 65536 * 64 := by have hL := HL.out; rw [hT.out]; unfold total; omega
                          rw [← hT.out] at htt
                          clear htp
                          go_wp2_with fail
                          refine (hal _ hS).mono ?_
                          rintro e w1 ⟨rfl, b1⟩
                          have BB := (below_alloc w _).trans (b1.mono (by simp))
                          have X1 := X0.later (b1.mono X0.lt)
                          have hS1 := hS.later b1
                          clear hal hS b1 h c0 c1 c2 c3 c4 c5 X0
                          have c0 := X1.c0
                          have c1 := X1.c1
                          have c2 := X1.c2
                          have c3 := X1.c3
                          have c4 := X1.c4
                          have c5 := X1.c5
                          go_wp2_with fail
                          refine (htt w1 hS1).mono ?_
                          rintro e w2 ⟨rfl, b2⟩
                          have BB2 := BB.trans (b2.mono BB.size)
                          have X2 := X1.later (b2.mono X1.lt)
                          have hS2 := hS1.later b2
                          clear hS1 b2 c0 c1 c2 c3 c4 c5 X1 BB
                          by_cases h10 : 512 < T
                          · skip
                            obtain rfl : X = 1 := by
                              have := hX.out
                              unfold chkD at this
                              simp only at this
                              rw [if_neg hR, if_neg (by omega), if_neg (by omega), if_pos (.inr (.inr (.inr (.inr (.inr ⟨trivial, by rw [← hT.out]; exact h10⟩)))))] at this
                              exact this
                            clear hX
                            clear ha htt X2 hS2
                            go_wp2
                            go_ret
                            exact ⟨rfl, BB2⟩
                          · skip
                            by_cases h11 : (da.size : Int) = 64 * T
                            · skip
                              obtain rfl : X = 0 := by
                                have := hX.out
                                unfold chkD at this
                                simp only at this
                                have hL := HL.out
                                rw [if_neg hR, if_neg (by omega), if_neg (by omega), if_neg (by rw [← hT.out]; show ¬ (_ ∨ _ ∨ 0 < 0 ∨ _); rintro (h | h | h | h | h | h); omega; omega; omega; omega; rw [ha] at h; exact absurd h (by decide); omega), if_neg (by rw [← hT.out]; omega)] at this
                                exact this
                              clear hX
                              have q0 : ∀ p : Later (w2), p.val.cell? ⟨w.heap.size, 0, none⟩ = some (.int .i64 ep) := fun p => (X2.later (p.below.mono X2.lt)).c0
                              have q1 : ∀ p : Later (w2), p.val.cell? ⟨w.heap.size, 1, none⟩ = some (.int .i64 nu) := fun p => (X2.later (p.below.mono X2.lt)).c1
                              have q2 : ∀ p : Later (w2), p.val.cell? ⟨w.heap.size, 2, none⟩ = some (.int .i64 1) := fun p => (X2.later (p.below.mono X2.lt)).c2
                              have q3 : ∀ p : Later (w2), p.val.cell? ⟨w.heap.size, 3, none⟩ = some (.slice a n cap) := fun p => (X2.later (p.below.mono X2.lt)).c3
                              have q4 : ∀ p : Later (w2), p.val.cell? ⟨w.heap.size, 4, none⟩ = some (.string da) := fun p => (X2.later (p.below.mono X2.lt)).c4
                              have q5 : ∀ p : Later (w2), p.val.cell? ⟨w.heap.size, 5, none⟩ = some (.string ⟨#[]⟩) := fun p => (X2.later (p.below.mono X2.lt)).c5
                              have hne := later_ne (w2)
                              clear X2
                              go_wp2
                              refine wp_region_later (by kernel_rfl) (by kernel_rfl) ?_
                              (repeat (first | go_big_quiet_skip | (go_big_quiet_want; go_big_quiet_op; go_big_quiet_on)))
                              (go_big_quiet_want; go_big_quiet_op; apply Exists.intro; refine ⟨fun p => ?_, ?_⟩; (· exact later_of (htt p.val (hS2.later p.below))); go_big_quiet_on)
                              (repeat (first | go_big_quiet_skip | (go_big_quiet_want; go_big_quiet_op; go_big_quiet_on)))
                              refine wpQuiet_nil ?_
                              rintro _ ⟨p, rfl⟩
                              have BF := BB2.trans (p.below.mono BB2.size)
                              clear q0 q1 q2 q3 q4 q5 hne
                              go_wp2
                              go_ret
                              exact ⟨rfl, BF⟩
                            · skip
                              obtain rfl : X = 30 := by
                                have := hX.out
                                unfold chkD at this
                                simp only at this
                                have hL := HL.out
                                rw [if_neg hR, if_neg (by omega), if_neg (by omega), if_neg (by rw [← hT.out]; show ¬ (_ ∨ _ ∨ 0 < 0 ∨ _); rintro (h | h | h | h | h | h); omega; omega; omega; omega; rw [ha] at h; exact absurd h (by decide); omega), if_pos ⟨trivial, by rw [← hT.out]; exact h11⟩] at this
                                exact this
                              clear hX
                              have q0 : ∀ p : Later (w2), p.val.cell? ⟨w.heap.size, 0, none⟩ = some (.int .i64 ep) := fun p => (X2.later (p.below.mono X2.lt)).c0
                              have q1 : ∀ p : Later (w2), p.val.cell? ⟨w.heap.size, 1, none⟩ = some (.int .i64 nu) := fun p => (X2.later (p.below.mono X2.lt)).c1
                              have q2 : ∀ p : Later (w2), p.val.cell? ⟨w.heap.size, 2, none⟩ = some (.int .i64 1) := fun p => (X2.later (p.below.mono X2.lt)).c2
                              have q3 : ∀ p : Later (w2), p.val.cell? ⟨w.heap.size, 3, none⟩ = some (.slice a n cap) := fun p => (X2.later (p.below.mono X2.lt)).c3
                              have q4 : ∀ p : Later (w2), p.val.cell? ⟨w.heap.size, 4, none⟩ = some (.string da) := fun p => (X2.later (p.below.mono X2.lt)).c4
                              have q5 : ∀ p : Later (w2), p.val.cell? ⟨w.heap.size, 5, none⟩ = some (.string ⟨#[]⟩) := fun p => (X2.later (p.below.mono X2.lt)).c5
                              have hne := later_ne (w2)
                              clear X2
                              go_wp2
                              refine wp_region_later (by kernel_rfl) (by kernel_rfl) ?_
                              (repeat (first | go_big_quiet_skip | (go_big_quiet_want; go_big_quiet_op; go_big_quiet_on)))
                              (go_big_quiet_want; go_big_quiet_op; apply Exists.intro; refine ⟨fun p => ?_, ?_⟩; (· exact later_of (htt p.val (hS2.later p.below))); go_big_quiet_on)
                              (repeat (first | go_big_quiet_skip | (go_big_quiet_want; go_big_quiet_op; go_big_quiet_on)))
                              refine wpQuiet_nil ?_
                              rintro _ ⟨p, rfl⟩
                              have BF := BB2.trans (p.below.mono BB2.size)
                              clear q0 q1 q2 q3 q4 q5 hne
                              go_wp2
                              go_ret
                              exact ⟨rfl, BF⟩
end Re
end Go.Proofs.YtnpbgjafahhadaaDoor
