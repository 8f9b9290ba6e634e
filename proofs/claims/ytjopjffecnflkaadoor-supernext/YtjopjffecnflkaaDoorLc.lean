/- The law SuperNext, walked. -/
import Derived.Test.YtjopjffecnflkaaDoorSn
namespace Go.Proofs.YtjopjffecnflkaaDoor
open Go.RowKit
namespace Su
open Cr
set_option maxHeartbeats 8000000 in
theorem superNext_walk (s : Sb) (hs : s.Fit) (t n : Int) (ht : I64 t) (hn : I64 n) (W : World) (T : Tab W) : Calls Tryd.prog 5 #[s.val, .int .i64 t, .int .i64 n] W fun e w' => e = .returned (.bool true) ∧ Below W.heap.size W w' := by
  have hPl := fun w => plain_any s w
  have hRc := fun w => rchk_any s hs w
  have hN := fun w => next_any s hs t n ht hn w
  by_cases h : chk s = 0
  · have hk := chk_ok h
    rw [h] at hRc
    by_cases h1 : t < s.tail ∨ n < s.num
    · have hx : nextS s t n = (Sb.zero, 1) := by unfold nextS; rw [if_neg (by omega), if_pos h1]
      rw [hx] at hN
      clear hx hs h hk ht hn
      obtain ⟨key, ep, ser, siz, tail, num⟩ := s
      simp only [Sb.val, Sb.zero] at hPl hRc hN h1 ⊢
      by_cases h2 : t < tail
      · clear h1
        have X := boxC W (key) (ep) (ser) (siz) (tail) (num) 24
        have BB := below_alloc W (.cells #[.int .u64 ((key : Nat) : Int), .int .i64 (ep), .int .i64 (ser), .int .i64 (siz), .int .i64 (tail), .int .i64 (num)] 24)
        go_enter Tryd.func5, Tryd.ntmps5
        go_wp2_with fail
        refine (hN _).mono ?_
        rintro e w1 ⟨rfl, b1⟩
        replace X := X.later (b1.mono X.lt)
        replace BB := BB.trans (b1.mono BB.size)
        clear b1 
        have Xc0_1 := X.c0
        have Xc1_1 := X.c1
        have Xc2_1 := X.c2
        have Xc3_1 := X.c3
        have Xc4_1 := X.c4
        have Xc5_1 := X.c5
        have b2 := below_alloc w1 (.cells #[.int .u64 0, .int .i64 (0), .int .i64 (0), .int .i64 (0), .int .i64 (0), .int .i64 (0)] 24)
        have Z : BoxC (w1.alloc (.cells #[.int .u64 0, .int .i64 (0), .int .i64 (0), .int .i64 (0), .int .i64 (0), .int .i64 (0)] 24)) w1.heap.size (0) (0) (0) (0) (0) (0) := boxC w1 (0) (0) (0) (0) (0) (0) 24
        replace X := X.later (b2.mono X.lt)
        replace BB := BB.trans (b2.mono BB.size)
        clear b2
        have Xc0_2 := X.c0
        have Xc1_2 := X.c1
        have Xc2_2 := X.c2
        have Xc3_2 := X.c3
        have Xc4_2 := X.c4
        have Xc5_2 := X.c5
        have Zc0_3 := Z.c0
        have Zc1_3 := Z.c1
        have Zc2_3 := Z.c2
        have Zc3_3 := Z.c3
        have Zc4_3 := Z.c4
        have Zc5_3 := Z.c5
        go_wp2_with fail
        refine (hPl _).mono ?_
        rintro e w3 ⟨rfl, b3⟩
        clear Xc0_2 Xc1_2 Xc2_2 Xc3_2 Xc4_2 Xc5_2
        clear Zc0_3 Zc1_3 Zc2_3 Zc3_3 Zc4_3 Zc5_3
        clear Xc0_1 Xc1_1 Xc2_1 Xc3_1 Xc4_1 Xc5_1
        replace X := X.later (b3.mono X.lt)
        replace Z := Z.later (b3.mono Z.lt)
        replace BB := BB.trans (b3.mono BB.size)
        clear b3 
        have Xc0_4 := X.c0
        have Xc1_4 := X.c1
        have Xc2_4 := X.c2
        have Xc3_4 := X.c3
        have Xc4_4 := X.c4
        have Xc5_4 := X.c5
        have Zc0_5 := Z.c0
        have Zc1_5 := Z.c1
        have Zc2_5 := Z.c2
        have Zc3_5 := Z.c3
        have Zc4_5 := Z.c4
        have Zc5_5 := Z.c5
        go_wp2_with fail
        refine (hRc _).mono ?_
        rintro e w4 ⟨rfl, b4⟩
        clear Xc0_4 Xc1_4 Xc2_4 Xc3_4 Xc4_4 Xc5_4
        clear Zc0_5 Zc1_5 Zc2_5 Zc3_5 Zc4_5 Zc5_5
        replace X := X.later (b4.mono X.lt)
        replace Z := Z.later (b4.mono Z.lt)
        replace BB := BB.trans (b4.mono BB.size)
        clear b4 
        have Xc0_6 := X.c0
        have Xc1_6 := X.c1
        have Xc2_6 := X.c2
        have Xc3_6 := X.c3
        have Xc4_6 := X.c4
        have Xc5_6 := X.c5
        have Zc0_7 := Z.c0
        have Zc1_7 := Z.c1
        have Zc2_7 := Z.c2
        have Zc3_7 := Z.c3
        have Zc4_7 := Z.c4
        have Zc5_7 := Z.c5
        have b5 := below_alloc w4 (.cells #[.int .u64 ((key : Nat) : Int), .int .i64 (ep), .int .i64 (ser), .int .i64 (siz), .int .i64 (t), .int .i64 (n)] 27)
        have Y : BoxC (w4.alloc (.cells #[.int .u64 ((key : Nat) : Int), .int .i64 (ep), .int .i64 (ser), .int .i64 (siz), .int .i64 (t), .int .i64 (n)] 27)) w4.heap.size (key) (ep) (ser) (siz) (t) (n) := boxC w4 (key) (ep) (ser) (siz) (t) (n) 27
        replace X := X.later (b5.mono X.lt)
        replace Z := Z.later (b5.mono Z.lt)
        replace BB := BB.trans (b5.mono BB.size)
        clear b5
        have Xc0_8 := X.c0
        have Xc1_8 := X.c1
        have Xc2_8 := X.c2
        have Xc3_8 := X.c3
        have Xc4_8 := X.c4
        have Xc5_8 := X.c5
        have Zc0_9 := Z.c0
        have Zc1_9 := Z.c1
        have Zc2_9 := Z.c2
        have Zc3_9 := Z.c3
        have Zc4_9 := Z.c4
        have Zc5_9 := Z.c5
        have Yc0_10 := Y.c0
        have Yc1_10 := Y.c1
        have Yc2_10 := Y.c2
        have Yc3_10 := Y.c3
        have Yc4_10 := Y.c4
        have Yc5_10 := Y.c5
        go_wp2_with fail
        refine (awake_any _ (T.later BB)).mono ?_
        rintro e w6 ⟨rfl, b6⟩
        clear Xc0_8 Xc1_8 Xc2_8 Xc3_8 Xc4_8 Xc5_8
        clear Zc0_9 Zc1_9 Zc2_9 Zc3_9 Zc4_9 Zc5_9
        clear Yc0_10 Yc1_10 Yc2_10 Yc3_10 Yc4_10 Yc5_10
        clear Xc0_6 Xc1_6 Xc2_6 Xc3_6 Xc4_6 Xc5_6 Zc0_7 Zc1_7 Zc2_7 Zc3_7 Zc4_7 Zc5_7
        replace X := X.later (b6.mono X.lt)
        replace Z := Z.later (b6.mono Z.lt)
        replace Y := Y.later (b6.mono Y.lt)
        replace BB := BB.trans (b6.mono BB.size)
        clear b6 
        have Xc0_11 := X.c0
        have Xc1_11 := X.c1
        have Xc2_11 := X.c2
        have Xc3_11 := X.c3
        have Xc4_11 := X.c4
        have Xc5_11 := X.c5
        have Zc0_12 := Z.c0
        have Zc1_12 := Z.c1
        have Zc2_12 := Z.c2
        have Zc3_12 := Z.c3
        have Zc4_12 := Z.c4
        have Zc5_12 := Z.c5
        have Yc0_13 := Y.c0
        have Yc1_13 := Y.c1
        have Yc2_13 := Y.c2
        have Yc3_13 := Y.c3
        have Yc4_13 := Y.c4
        have Yc5_13 := Y.c5
        go_wp2
        go_ret
        exact ⟨rfl, BB⟩

      · have h3 : n < num := by omega
        clear h1
        have X := boxC W (key) (ep) (ser) (siz) (tail) (num) 24
        have BB := below_alloc W (.cells #[.int .u64 ((key : Nat) : Int), .int .i64 (ep), .int .i64 (ser), .int .i64 (siz), .int .i64 (tail), .int .i64 (num)] 24)
        go_enter Tryd.func5, Tryd.ntmps5
        go_wp2_with fail
        refine (hN _).mono ?_
        rintro e w1 ⟨rfl, b1⟩
        replace X := X.later (b1.mono X.lt)
        replace BB := BB.trans (b1.mono BB.size)
        clear b1 
        have Xc0_1 := X.c0
        have Xc1_1 := X.c1
        have Xc2_1 := X.c2
        have Xc3_1 := X.c3
        have Xc4_1 := X.c4
        have Xc5_1 := X.c5
        have b2 := below_alloc w1 (.cells #[.int .u64 0, .int .i64 (0), .int .i64 (0), .int .i64 (0), .int .i64 (0), .int .i64 (0)] 24)
        have Z : BoxC (w1.alloc (.cells #[.int .u64 0, .int .i64 (0), .int .i64 (0), .int .i64 (0), .int .i64 (0), .int .i64 (0)] 24)) w1.heap.size (0) (0) (0) (0) (0) (0) := boxC w1 (0) (0) (0) (0) (0) (0) 24
        replace X := X.later (b2.mono X.lt)
        replace BB := BB.trans (b2.mono BB.size)
        clear b2
        have Xc0_2 := X.c0
        have Xc1_2 := X.c1
        have Xc2_2 := X.c2
        have Xc3_2 := X.c3
        have Xc4_2 := X.c4
        have Xc5_2 := X.c5
        have Zc0_3 := Z.c0
        have Zc1_3 := Z.c1
        have Zc2_3 := Z.c2
        have Zc3_3 := Z.c3
        have Zc4_3 := Z.c4
        have Zc5_3 := Z.c5
        go_wp2_with fail
        refine (hPl _).mono ?_
        rintro e w3 ⟨rfl, b3⟩
        clear Xc0_2 Xc1_2 Xc2_2 Xc3_2 Xc4_2 Xc5_2
        clear Zc0_3 Zc1_3 Zc2_3 Zc3_3 Zc4_3 Zc5_3
        clear Xc0_1 Xc1_1 Xc2_1 Xc3_1 Xc4_1 Xc5_1
        replace X := X.later (b3.mono X.lt)
        replace Z := Z.later (b3.mono Z.lt)
        replace BB := BB.trans (b3.mono BB.size)
        clear b3 
        have Xc0_4 := X.c0
        have Xc1_4 := X.c1
        have Xc2_4 := X.c2
        have Xc3_4 := X.c3
        have Xc4_4 := X.c4
        have Xc5_4 := X.c5
        have Zc0_5 := Z.c0
        have Zc1_5 := Z.c1
        have Zc2_5 := Z.c2
        have Zc3_5 := Z.c3
        have Zc4_5 := Z.c4
        have Zc5_5 := Z.c5
        go_wp2_with fail
        refine (hRc _).mono ?_
        rintro e w4 ⟨rfl, b4⟩
        clear Xc0_4 Xc1_4 Xc2_4 Xc3_4 Xc4_4 Xc5_4
        clear Zc0_5 Zc1_5 Zc2_5 Zc3_5 Zc4_5 Zc5_5
        replace X := X.later (b4.mono X.lt)
        replace Z := Z.later (b4.mono Z.lt)
        replace BB := BB.trans (b4.mono BB.size)
        clear b4 
        have Xc0_6 := X.c0
        have Xc1_6 := X.c1
        have Xc2_6 := X.c2
        have Xc3_6 := X.c3
        have Xc4_6 := X.c4
        have Xc5_6 := X.c5
        have Zc0_7 := Z.c0
        have Zc1_7 := Z.c1
        have Zc2_7 := Z.c2
        have Zc3_7 := Z.c3
        have Zc4_7 := Z.c4
        have Zc5_7 := Z.c5
        have b5 := below_alloc w4 (.cells #[.int .u64 ((key : Nat) : Int), .int .i64 (ep), .int .i64 (ser), .int .i64 (siz), .int .i64 (t), .int .i64 (n)] 27)
        have Y : BoxC (w4.alloc (.cells #[.int .u64 ((key : Nat) : Int), .int .i64 (ep), .int .i64 (ser), .int .i64 (siz), .int .i64 (t), .int .i64 (n)] 27)) w4.heap.size (key) (ep) (ser) (siz) (t) (n) := boxC w4 (key) (ep) (ser) (siz) (t) (n) 27
        replace X := X.later (b5.mono X.lt)
        replace Z := Z.later (b5.mono Z.lt)
        replace BB := BB.trans (b5.mono BB.size)
        clear b5
        have Xc0_8 := X.c0
        have Xc1_8 := X.c1
        have Xc2_8 := X.c2
        have Xc3_8 := X.c3
        have Xc4_8 := X.c4
        have Xc5_8 := X.c5
        have Zc0_9 := Z.c0
        have Zc1_9 := Z.c1
        have Zc2_9 := Z.c2
        have Zc3_9 := Z.c3
        have Zc4_9 := Z.c4
        have Zc5_9 := Z.c5
        have Yc0_10 := Y.c0
        have Yc1_10 := Y.c1
        have Yc2_10 := Y.c2
        have Yc3_10 := Y.c3
        have Yc4_10 := Y.c4
        have Yc5_10 := Y.c5
        go_wp2_with fail
        refine (awake_any _ (T.later BB)).mono ?_
        rintro e w6 ⟨rfl, b6⟩
        clear Xc0_8 Xc1_8 Xc2_8 Xc3_8 Xc4_8 Xc5_8
        clear Zc0_9 Zc1_9 Zc2_9 Zc3_9 Zc4_9 Zc5_9
        clear Yc0_10 Yc1_10 Yc2_10 Yc3_10 Yc4_10 Yc5_10
        clear Xc0_6 Xc1_6 Xc2_6 Xc3_6 Xc4_6 Xc5_6 Zc0_7 Zc1_7 Zc2_7 Zc3_7 Zc4_7 Zc5_7
        replace X := X.later (b6.mono X.lt)
        replace Z := Z.later (b6.mono Z.lt)
        replace Y := Y.later (b6.mono Y.lt)
        replace BB := BB.trans (b6.mono BB.size)
        clear b6 
        have Xc0_11 := X.c0
        have Xc1_11 := X.c1
        have Xc2_11 := X.c2
        have Xc3_11 := X.c3
        have Xc4_11 := X.c4
        have Xc5_11 := X.c5
        have Zc0_12 := Z.c0
        have Zc1_12 := Z.c1
        have Zc2_12 := Z.c2
        have Zc3_12 := Z.c3
        have Zc4_12 := Z.c4
        have Zc5_12 := Z.c5
        have Yc0_13 := Y.c0
        have Yc1_13 := Y.c1
        have Yc2_13 := Y.c2
        have Yc3_13 := Y.c3
        have Yc4_13 := Y.c4
        have Yc5_13 := Y.c5
        go_wp2
        go_ret
        exact ⟨rfl, BB⟩

    · have hf := follow_fit hs h ht hn
      have hR2 := fun w => rchk_any (s.follow t n) hf w
      have hP2 := fun w => plain_any (s.follow t n) w
      have hx : nextS s t n = (if chk (s.follow t n) ≠ 0 then (Sb.zero, chk (s.follow t n)) else (s.follow t n, 0)) := by unfold nextS; rw [if_neg (by omega), if_neg h1]
      rw [hx] at hN
      clear hx hs h hf ht hn
      generalize chk (s.follow t n) = c at *
      obtain ⟨key, ep, ser, siz, tail, num⟩ := s
      simp only [Sb.val, Sb.follow] at hPl hRc hN hR2 hP2 h1 hk ⊢
      have l1 : ser < 1099511627776 := by omega
      have l0 : 0 ≤ ser := by omega
      have h2 : ¬ t < tail := by omega
      have h3 : ¬ n < num := by omega
      clear h1 hk
      by_cases hc : c = 0
      · subst hc
        rw [if_neg (by omega)] at hN
        simp only at hN
        have X := boxC W (key) (ep) (ser) (siz) (tail) (num) 24
        have BB := below_alloc W (.cells #[.int .u64 ((key : Nat) : Int), .int .i64 (ep), .int .i64 (ser), .int .i64 (siz), .int .i64 (tail), .int .i64 (num)] 24)
        go_enter Tryd.func5, Tryd.ntmps5
        go_wp2_with fail
        refine (hN _).mono ?_
        rintro e w1 ⟨rfl, b1⟩
        replace X := X.later (b1.mono X.lt)
        replace BB := BB.trans (b1.mono BB.size)
        clear b1 
        have Xc0_1 := X.c0
        have Xc1_1 := X.c1
        have Xc2_1 := X.c2
        have Xc3_1 := X.c3
        have Xc4_1 := X.c4
        have Xc5_1 := X.c5
        have b2 := below_alloc w1 (.cells #[.int .u64 ((key : Nat) : Int), .int .i64 (ep), .int .i64 (ser + 1), .int .i64 (siz), .int .i64 (t), .int .i64 (n)] 24)
        have Z : BoxC (w1.alloc (.cells #[.int .u64 ((key : Nat) : Int), .int .i64 (ep), .int .i64 (ser + 1), .int .i64 (siz), .int .i64 (t), .int .i64 (n)] 24)) w1.heap.size (key) (ep) (ser + 1) (siz) (t) (n) := boxC w1 (key) (ep) (ser + 1) (siz) (t) (n) 24
        replace X := X.later (b2.mono X.lt)
        replace BB := BB.trans (b2.mono BB.size)
        clear b2
        have Xc0_2 := X.c0
        have Xc1_2 := X.c1
        have Xc2_2 := X.c2
        have Xc3_2 := X.c3
        have Xc4_2 := X.c4
        have Xc5_2 := X.c5
        have Zc0_3 := Z.c0
        have Zc1_3 := Z.c1
        have Zc2_3 := Z.c2
        have Zc3_3 := Z.c3
        have Zc4_3 := Z.c4
        have Zc5_3 := Z.c5
        go_wp2_with fail
        refine (hPl _).mono ?_
        rintro e w3 ⟨rfl, b3⟩
        clear Xc0_2 Xc1_2 Xc2_2 Xc3_2 Xc4_2 Xc5_2
        clear Zc0_3 Zc1_3 Zc2_3 Zc3_3 Zc4_3 Zc5_3
        clear Xc0_1 Xc1_1 Xc2_1 Xc3_1 Xc4_1 Xc5_1
        replace X := X.later (b3.mono X.lt)
        replace Z := Z.later (b3.mono Z.lt)
        replace BB := BB.trans (b3.mono BB.size)
        clear b3 
        have Xc0_4 := X.c0
        have Xc1_4 := X.c1
        have Xc2_4 := X.c2
        have Xc3_4 := X.c3
        have Xc4_4 := X.c4
        have Xc5_4 := X.c5
        have Zc0_5 := Z.c0
        have Zc1_5 := Z.c1
        have Zc2_5 := Z.c2
        have Zc3_5 := Z.c3
        have Zc4_5 := Z.c4
        have Zc5_5 := Z.c5
        go_wp2_with fail
        refine (hRc _).mono ?_
        rintro e w4 ⟨rfl, b4⟩
        clear Xc0_4 Xc1_4 Xc2_4 Xc3_4 Xc4_4 Xc5_4
        clear Zc0_5 Zc1_5 Zc2_5 Zc3_5 Zc4_5 Zc5_5
        replace X := X.later (b4.mono X.lt)
        replace Z := Z.later (b4.mono Z.lt)
        replace BB := BB.trans (b4.mono BB.size)
        clear b4 
        have Xc0_6 := X.c0
        have Xc1_6 := X.c1
        have Xc2_6 := X.c2
        have Xc3_6 := X.c3
        have Xc4_6 := X.c4
        have Xc5_6 := X.c5
        have Zc0_7 := Z.c0
        have Zc1_7 := Z.c1
        have Zc2_7 := Z.c2
        have Zc3_7 := Z.c3
        have Zc4_7 := Z.c4
        have Zc5_7 := Z.c5
        have b5 := below_alloc w4 (.cells #[.int .u64 ((key : Nat) : Int), .int .i64 (ep), .int .i64 (ser + 1), .int .i64 (siz), .int .i64 (t), .int .i64 (n)] 27)
        have Y : BoxC (w4.alloc (.cells #[.int .u64 ((key : Nat) : Int), .int .i64 (ep), .int .i64 (ser + 1), .int .i64 (siz), .int .i64 (t), .int .i64 (n)] 27)) w4.heap.size (key) (ep) (ser + 1) (siz) (t) (n) := boxC w4 (key) (ep) (ser + 1) (siz) (t) (n) 27
        replace X := X.later (b5.mono X.lt)
        replace Z := Z.later (b5.mono Z.lt)
        replace BB := BB.trans (b5.mono BB.size)
        clear b5
        have Xc0_8 := X.c0
        have Xc1_8 := X.c1
        have Xc2_8 := X.c2
        have Xc3_8 := X.c3
        have Xc4_8 := X.c4
        have Xc5_8 := X.c5
        have Zc0_9 := Z.c0
        have Zc1_9 := Z.c1
        have Zc2_9 := Z.c2
        have Zc3_9 := Z.c3
        have Zc4_9 := Z.c4
        have Zc5_9 := Z.c5
        have Yc0_10 := Y.c0
        have Yc1_10 := Y.c1
        have Yc2_10 := Y.c2
        have Yc3_10 := Y.c3
        have Yc4_10 := Y.c4
        have Yc5_10 := Y.c5
        go_wp2_with fail
        refine (hR2 _).mono ?_
        rintro e w6 ⟨rfl, b6⟩
        clear Xc0_8 Xc1_8 Xc2_8 Xc3_8 Xc4_8 Xc5_8
        clear Zc0_9 Zc1_9 Zc2_9 Zc3_9 Zc4_9 Zc5_9
        clear Yc0_10 Yc1_10 Yc2_10 Yc3_10 Yc4_10 Yc5_10
        clear Xc0_6 Xc1_6 Xc2_6 Xc3_6 Xc4_6 Xc5_6 Zc0_7 Zc1_7 Zc2_7 Zc3_7 Zc4_7 Zc5_7
        replace X := X.later (b6.mono X.lt)
        replace Z := Z.later (b6.mono Z.lt)
        replace Y := Y.later (b6.mono Y.lt)
        replace BB := BB.trans (b6.mono BB.size)
        clear b6 
        have Xc0_11 := X.c0
        have Xc1_11 := X.c1
        have Xc2_11 := X.c2
        have Xc3_11 := X.c3
        have Xc4_11 := X.c4
        have Xc5_11 := X.c5
        have Zc0_12 := Z.c0
        have Zc1_12 := Z.c1
        have Zc2_12 := Z.c2
        have Zc3_12 := Z.c3
        have Zc4_12 := Z.c4
        have Zc5_12 := Z.c5
        have Yc0_13 := Y.c0
        have Yc1_13 := Y.c1
        have Yc2_13 := Y.c2
        have Yc3_13 := Y.c3
        have Yc4_13 := Y.c4
        have Yc5_13 := Y.c5
        have Tq := T.later BB
        clear Xc0_11 Xc1_11 Xc2_11 Xc3_11 Xc4_11 Xc5_11
        clear Zc0_12 Zc1_12 Zc2_12 Zc3_12 Zc4_12 Zc5_12
        clear Yc0_13 Yc1_13 Yc2_13 Yc3_13 Yc4_13 Yc5_13
        have hne7 := later_ne w6
        have qZ0 : ∀ p : Later w6, p.val.cell? ⟨w1.heap.size, 0, none⟩ = some (.int .u64 ((key : Nat) : Int)) := fun p => (Z.later (p.below.mono Z.lt)).c0
        have qZ1 : ∀ p : Later w6, p.val.cell? ⟨w1.heap.size, 1, none⟩ = some (.int .i64 (ep)) := fun p => (Z.later (p.below.mono Z.lt)).c1
        have qZ2 : ∀ p : Later w6, p.val.cell? ⟨w1.heap.size, 2, none⟩ = some (.int .i64 (ser + 1)) := fun p => (Z.later (p.below.mono Z.lt)).c2
        have qZ3 : ∀ p : Later w6, p.val.cell? ⟨w1.heap.size, 3, none⟩ = some (.int .i64 (siz)) := fun p => (Z.later (p.below.mono Z.lt)).c3
        have qZ4 : ∀ p : Later w6, p.val.cell? ⟨w1.heap.size, 4, none⟩ = some (.int .i64 (t)) := fun p => (Z.later (p.below.mono Z.lt)).c4
        have qZ5 : ∀ p : Later w6, p.val.cell? ⟨w1.heap.size, 5, none⟩ = some (.int .i64 (n)) := fun p => (Z.later (p.below.mono Z.lt)).c5
        have qY0 : ∀ p : Later w6, p.val.cell? ⟨w4.heap.size, 0, none⟩ = some (.int .u64 ((key : Nat) : Int)) := fun p => (Y.later (p.below.mono Y.lt)).c0
        have qY1 : ∀ p : Later w6, p.val.cell? ⟨w4.heap.size, 1, none⟩ = some (.int .i64 (ep)) := fun p => (Y.later (p.below.mono Y.lt)).c1
        have qY2 : ∀ p : Later w6, p.val.cell? ⟨w4.heap.size, 2, none⟩ = some (.int .i64 (ser + 1)) := fun p => (Y.later (p.below.mono Y.lt)).c2
        have qY3 : ∀ p : Later w6, p.val.cell? ⟨w4.heap.size, 3, none⟩ = some (.int .i64 (siz)) := fun p => (Y.later (p.below.mono Y.lt)).c3
        have qY4 : ∀ p : Later w6, p.val.cell? ⟨w4.heap.size, 4, none⟩ = some (.int .i64 (t)) := fun p => (Y.later (p.below.mono Y.lt)).c4
        have qY5 : ∀ p : Later w6, p.val.cell? ⟨w4.heap.size, 5, none⟩ = some (.int .i64 (n)) := fun p => (Y.later (p.below.mono Y.lt)).c5
        go_wp2
        refine wp_region_later (by kernel_rfl) (by kernel_rfl) ?_
        (repeat (first | go_big_quiet_skip | (go_big_quiet_want; go_big_quiet_op; go_big_quiet_on)))
        (go_big_quiet_want; go_big_quiet_op; apply Exists.intro; refine ⟨fun p => ?_, ?_⟩; (· exact later_of (hP2 _)); go_big_quiet_on)
        (repeat (first | go_big_quiet_skip | (go_big_quiet_want; go_big_quiet_op; go_big_quiet_on)))
        (go_big_quiet_want; go_big_quiet_op; apply Exists.intro; refine ⟨fun p => ?_, ?_⟩; (· exact later_of (awake_any _ (Tq.later p.below))); go_big_quiet_on)
        (repeat (first | go_big_quiet_skip | (go_big_quiet_want; go_big_quiet_op; go_big_quiet_on)))
        refine wpQuiet_nil ?_
        rintro _ ⟨p7, rfl⟩
        replace X := X.later (p7.below.mono X.lt)
        replace Z := Z.later (p7.below.mono Z.lt)
        replace Y := Y.later (p7.below.mono Y.lt)
        replace BB := BB.trans (p7.below.mono BB.size)
        clear hne7 qZ0 qZ1 qZ2 qZ3 qZ4 qZ5 qY0 qY1 qY2 qY3 qY4 qY5
        go_wp2
        go_ret
        exact ⟨rfl, BB⟩

      · rw [if_pos hc] at hN
        simp only [Sb.zero] at hN
        clear hP2
        have X := boxC W (key) (ep) (ser) (siz) (tail) (num) 24
        have BB := below_alloc W (.cells #[.int .u64 ((key : Nat) : Int), .int .i64 (ep), .int .i64 (ser), .int .i64 (siz), .int .i64 (tail), .int .i64 (num)] 24)
        go_enter Tryd.func5, Tryd.ntmps5
        go_wp2_with fail
        refine (hN _).mono ?_
        rintro e w1 ⟨rfl, b1⟩
        replace X := X.later (b1.mono X.lt)
        replace BB := BB.trans (b1.mono BB.size)
        clear b1 
        have Xc0_1 := X.c0
        have Xc1_1 := X.c1
        have Xc2_1 := X.c2
        have Xc3_1 := X.c3
        have Xc4_1 := X.c4
        have Xc5_1 := X.c5
        have b2 := below_alloc w1 (.cells #[.int .u64 0, .int .i64 (0), .int .i64 (0), .int .i64 (0), .int .i64 (0), .int .i64 (0)] 24)
        have Z : BoxC (w1.alloc (.cells #[.int .u64 0, .int .i64 (0), .int .i64 (0), .int .i64 (0), .int .i64 (0), .int .i64 (0)] 24)) w1.heap.size (0) (0) (0) (0) (0) (0) := boxC w1 (0) (0) (0) (0) (0) (0) 24
        replace X := X.later (b2.mono X.lt)
        replace BB := BB.trans (b2.mono BB.size)
        clear b2
        have Xc0_2 := X.c0
        have Xc1_2 := X.c1
        have Xc2_2 := X.c2
        have Xc3_2 := X.c3
        have Xc4_2 := X.c4
        have Xc5_2 := X.c5
        have Zc0_3 := Z.c0
        have Zc1_3 := Z.c1
        have Zc2_3 := Z.c2
        have Zc3_3 := Z.c3
        have Zc4_3 := Z.c4
        have Zc5_3 := Z.c5
        go_wp2_with fail
        refine (hPl _).mono ?_
        rintro e w3 ⟨rfl, b3⟩
        clear Xc0_2 Xc1_2 Xc2_2 Xc3_2 Xc4_2 Xc5_2
        clear Zc0_3 Zc1_3 Zc2_3 Zc3_3 Zc4_3 Zc5_3
        clear Xc0_1 Xc1_1 Xc2_1 Xc3_1 Xc4_1 Xc5_1
        replace X := X.later (b3.mono X.lt)
        replace Z := Z.later (b3.mono Z.lt)
        replace BB := BB.trans (b3.mono BB.size)
        clear b3 
        have Xc0_4 := X.c0
        have Xc1_4 := X.c1
        have Xc2_4 := X.c2
        have Xc3_4 := X.c3
        have Xc4_4 := X.c4
        have Xc5_4 := X.c5
        have Zc0_5 := Z.c0
        have Zc1_5 := Z.c1
        have Zc2_5 := Z.c2
        have Zc3_5 := Z.c3
        have Zc4_5 := Z.c4
        have Zc5_5 := Z.c5
        go_wp2_with fail
        refine (hRc _).mono ?_
        rintro e w4 ⟨rfl, b4⟩
        clear Xc0_4 Xc1_4 Xc2_4 Xc3_4 Xc4_4 Xc5_4
        clear Zc0_5 Zc1_5 Zc2_5 Zc3_5 Zc4_5 Zc5_5
        replace X := X.later (b4.mono X.lt)
        replace Z := Z.later (b4.mono Z.lt)
        replace BB := BB.trans (b4.mono BB.size)
        clear b4 
        have Xc0_6 := X.c0
        have Xc1_6 := X.c1
        have Xc2_6 := X.c2
        have Xc3_6 := X.c3
        have Xc4_6 := X.c4
        have Xc5_6 := X.c5
        have Zc0_7 := Z.c0
        have Zc1_7 := Z.c1
        have Zc2_7 := Z.c2
        have Zc3_7 := Z.c3
        have Zc4_7 := Z.c4
        have Zc5_7 := Z.c5
        have b5 := below_alloc w4 (.cells #[.int .u64 ((key : Nat) : Int), .int .i64 (ep), .int .i64 (ser + 1), .int .i64 (siz), .int .i64 (t), .int .i64 (n)] 27)
        have Y : BoxC (w4.alloc (.cells #[.int .u64 ((key : Nat) : Int), .int .i64 (ep), .int .i64 (ser + 1), .int .i64 (siz), .int .i64 (t), .int .i64 (n)] 27)) w4.heap.size (key) (ep) (ser + 1) (siz) (t) (n) := boxC w4 (key) (ep) (ser + 1) (siz) (t) (n) 27
        replace X := X.later (b5.mono X.lt)
        replace Z := Z.later (b5.mono Z.lt)
        replace BB := BB.trans (b5.mono BB.size)
        clear b5
        have Xc0_8 := X.c0
        have Xc1_8 := X.c1
        have Xc2_8 := X.c2
        have Xc3_8 := X.c3
        have Xc4_8 := X.c4
        have Xc5_8 := X.c5
        have Zc0_9 := Z.c0
        have Zc1_9 := Z.c1
        have Zc2_9 := Z.c2
        have Zc3_9 := Z.c3
        have Zc4_9 := Z.c4
        have Zc5_9 := Z.c5
        have Yc0_10 := Y.c0
        have Yc1_10 := Y.c1
        have Yc2_10 := Y.c2
        have Yc3_10 := Y.c3
        have Yc4_10 := Y.c4
        have Yc5_10 := Y.c5
        go_wp2_with fail
        refine (hR2 _).mono ?_
        rintro e w6 ⟨rfl, b6⟩
        clear Xc0_8 Xc1_8 Xc2_8 Xc3_8 Xc4_8 Xc5_8
        clear Zc0_9 Zc1_9 Zc2_9 Zc3_9 Zc4_9 Zc5_9
        clear Yc0_10 Yc1_10 Yc2_10 Yc3_10 Yc4_10 Yc5_10
        clear Xc0_6 Xc1_6 Xc2_6 Xc3_6 Xc4_6 Xc5_6 Zc0_7 Zc1_7 Zc2_7 Zc3_7 Zc4_7 Zc5_7
        replace X := X.later (b6.mono X.lt)
        replace Z := Z.later (b6.mono Z.lt)
        replace Y := Y.later (b6.mono Y.lt)
        replace BB := BB.trans (b6.mono BB.size)
        clear b6 
        have Xc0_11 := X.c0
        have Xc1_11 := X.c1
        have Xc2_11 := X.c2
        have Xc3_11 := X.c3
        have Xc4_11 := X.c4
        have Xc5_11 := X.c5
        have Zc0_12 := Z.c0
        have Zc1_12 := Z.c1
        have Zc2_12 := Z.c2
        have Zc3_12 := Z.c3
        have Zc4_12 := Z.c4
        have Zc5_12 := Z.c5
        have Yc0_13 := Y.c0
        have Yc1_13 := Y.c1
        have Yc2_13 := Y.c2
        have Yc3_13 := Y.c3
        have Yc4_13 := Y.c4
        have Yc5_13 := Y.c5
        go_wp2_with fail
        refine (awake_any _ (T.later BB)).mono ?_
        rintro e w7 ⟨rfl, b7⟩
        clear Xc0_11 Xc1_11 Xc2_11 Xc3_11 Xc4_11 Xc5_11
        clear Zc0_12 Zc1_12 Zc2_12 Zc3_12 Zc4_12 Zc5_12
        clear Yc0_13 Yc1_13 Yc2_13 Yc3_13 Yc4_13 Yc5_13
        replace X := X.later (b7.mono X.lt)
        replace Z := Z.later (b7.mono Z.lt)
        replace Y := Y.later (b7.mono Y.lt)
        replace BB := BB.trans (b7.mono BB.size)
        clear b7 
        have Xc0_14 := X.c0
        have Xc1_14 := X.c1
        have Xc2_14 := X.c2
        have Xc3_14 := X.c3
        have Xc4_14 := X.c4
        have Xc5_14 := X.c5
        have Zc0_15 := Z.c0
        have Zc1_15 := Z.c1
        have Zc2_15 := Z.c2
        have Zc3_15 := Z.c3
        have Zc4_15 := Z.c4
        have Zc5_15 := Z.c5
        have Yc0_16 := Y.c0
        have Yc1_16 := Y.c1
        have Yc2_16 := Y.c2
        have Yc3_16 := Y.c3
        have Yc4_16 := Y.c4
        have Yc5_16 := Y.c5
        go_wp2
        go_ret
        exact ⟨rfl, BB⟩

  · have hx : nextS s t n = (Sb.zero, chk s) := by unfold nextS; rw [if_pos h]
    rw [hx] at hN
    clear hx hs ht hn
    generalize chk s = c at *
    obtain ⟨key, ep, ser, siz, tail, num⟩ := s
    simp only [Sb.val, Sb.zero] at hPl hRc hN ⊢
    have X := boxC W (key) (ep) (ser) (siz) (tail) (num) 24
    have BB := below_alloc W (.cells #[.int .u64 ((key : Nat) : Int), .int .i64 (ep), .int .i64 (ser), .int .i64 (siz), .int .i64 (tail), .int .i64 (num)] 24)
    go_enter Tryd.func5, Tryd.ntmps5
    go_wp2_with fail
    refine (hN _).mono ?_
    rintro e w1 ⟨rfl, b1⟩
    replace X := X.later (b1.mono X.lt)
    replace BB := BB.trans (b1.mono BB.size)
    clear b1 
    have Xc0_1 := X.c0
    have Xc1_1 := X.c1
    have Xc2_1 := X.c2
    have Xc3_1 := X.c3
    have Xc4_1 := X.c4
    have Xc5_1 := X.c5
    have b2 := below_alloc w1 (.cells #[.int .u64 0, .int .i64 (0), .int .i64 (0), .int .i64 (0), .int .i64 (0), .int .i64 (0)] 24)
    have Z : BoxC (w1.alloc (.cells #[.int .u64 0, .int .i64 (0), .int .i64 (0), .int .i64 (0), .int .i64 (0), .int .i64 (0)] 24)) w1.heap.size (0) (0) (0) (0) (0) (0) := boxC w1 (0) (0) (0) (0) (0) (0) 24
    replace X := X.later (b2.mono X.lt)
    replace BB := BB.trans (b2.mono BB.size)
    clear b2
    have Xc0_2 := X.c0
    have Xc1_2 := X.c1
    have Xc2_2 := X.c2
    have Xc3_2 := X.c3
    have Xc4_2 := X.c4
    have Xc5_2 := X.c5
    have Zc0_3 := Z.c0
    have Zc1_3 := Z.c1
    have Zc2_3 := Z.c2
    have Zc3_3 := Z.c3
    have Zc4_3 := Z.c4
    have Zc5_3 := Z.c5
    go_wp2_with fail
    refine (hPl _).mono ?_
    rintro e w3 ⟨rfl, b3⟩
    clear Xc0_2 Xc1_2 Xc2_2 Xc3_2 Xc4_2 Xc5_2
    clear Zc0_3 Zc1_3 Zc2_3 Zc3_3 Zc4_3 Zc5_3
    clear Xc0_1 Xc1_1 Xc2_1 Xc3_1 Xc4_1 Xc5_1
    replace X := X.later (b3.mono X.lt)
    replace Z := Z.later (b3.mono Z.lt)
    replace BB := BB.trans (b3.mono BB.size)
    clear b3 
    have Xc0_4 := X.c0
    have Xc1_4 := X.c1
    have Xc2_4 := X.c2
    have Xc3_4 := X.c3
    have Xc4_4 := X.c4
    have Xc5_4 := X.c5
    have Zc0_5 := Z.c0
    have Zc1_5 := Z.c1
    have Zc2_5 := Z.c2
    have Zc3_5 := Z.c3
    have Zc4_5 := Z.c4
    have Zc5_5 := Z.c5
    go_wp2_with fail
    refine (hRc _).mono ?_
    rintro e w4 ⟨rfl, b4⟩
    clear Xc0_4 Xc1_4 Xc2_4 Xc3_4 Xc4_4 Xc5_4
    clear Zc0_5 Zc1_5 Zc2_5 Zc3_5 Zc4_5 Zc5_5
    replace X := X.later (b4.mono X.lt)
    replace Z := Z.later (b4.mono Z.lt)
    replace BB := BB.trans (b4.mono BB.size)
    clear b4 
    have Xc0_6 := X.c0
    have Xc1_6 := X.c1
    have Xc2_6 := X.c2
    have Xc3_6 := X.c3
    have Xc4_6 := X.c4
    have Xc5_6 := X.c5
    have Zc0_7 := Z.c0
    have Zc1_7 := Z.c1
    have Zc2_7 := Z.c2
    have Zc3_7 := Z.c3
    have Zc4_7 := Z.c4
    have Zc5_7 := Z.c5
    have b5 := below_alloc w4 (.cells #[.int .u64 ((key : Nat) : Int), .int .i64 (ep), .int .i64 (ser), .int .i64 (siz), .int .i64 (t), .int .i64 (n)] 27)
    have Y : BoxC (w4.alloc (.cells #[.int .u64 ((key : Nat) : Int), .int .i64 (ep), .int .i64 (ser), .int .i64 (siz), .int .i64 (t), .int .i64 (n)] 27)) w4.heap.size (key) (ep) (ser) (siz) (t) (n) := boxC w4 (key) (ep) (ser) (siz) (t) (n) 27
    replace X := X.later (b5.mono X.lt)
    replace Z := Z.later (b5.mono Z.lt)
    replace BB := BB.trans (b5.mono BB.size)
    clear b5
    have Xc0_8 := X.c0
    have Xc1_8 := X.c1
    have Xc2_8 := X.c2
    have Xc3_8 := X.c3
    have Xc4_8 := X.c4
    have Xc5_8 := X.c5
    have Zc0_9 := Z.c0
    have Zc1_9 := Z.c1
    have Zc2_9 := Z.c2
    have Zc3_9 := Z.c3
    have Zc4_9 := Z.c4
    have Zc5_9 := Z.c5
    have Yc0_10 := Y.c0
    have Yc1_10 := Y.c1
    have Yc2_10 := Y.c2
    have Yc3_10 := Y.c3
    have Yc4_10 := Y.c4
    have Yc5_10 := Y.c5
    go_wp2_with fail
    refine (awake_any _ (T.later BB)).mono ?_
    rintro e w6 ⟨rfl, b6⟩
    clear Xc0_8 Xc1_8 Xc2_8 Xc3_8 Xc4_8 Xc5_8
    clear Zc0_9 Zc1_9 Zc2_9 Zc3_9 Zc4_9 Zc5_9
    clear Yc0_10 Yc1_10 Yc2_10 Yc3_10 Yc4_10 Yc5_10
    clear Xc0_6 Xc1_6 Xc2_6 Xc3_6 Xc4_6 Xc5_6 Zc0_7 Zc1_7 Zc2_7 Zc3_7 Zc4_7 Zc5_7
    replace X := X.later (b6.mono X.lt)
    replace Z := Z.later (b6.mono Z.lt)
    replace Y := Y.later (b6.mono Y.lt)
    replace BB := BB.trans (b6.mono BB.size)
    clear b6 
    have Xc0_11 := X.c0
    have Xc1_11 := X.c1
    have Xc2_11 := X.c2
    have Xc3_11 := X.c3
    have Xc4_11 := X.c4
    have Xc5_11 := X.c5
    have Zc0_12 := Z.c0
    have Zc1_12 := Z.c1
    have Zc2_12 := Z.c2
    have Zc3_12 := Z.c3
    have Zc4_12 := Z.c4
    have Zc5_12 := Z.c5
    have Yc0_13 := Y.c0
    have Yc1_13 := Y.c1
    have Yc2_13 := Y.c2
    have Yc3_13 := Y.c3
    have Yc4_13 := Y.c4
    have Yc5_13 := Y.c5
    go_wp2
    go_ret
    exact ⟨rfl, BB⟩
end Su
end Go.Proofs.YtjopjffecnflkaaDoor
