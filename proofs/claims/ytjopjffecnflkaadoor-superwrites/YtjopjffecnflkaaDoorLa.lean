/- The law SuperWrites, walked. -/
import Derived.Test.YtjopjffecnflkaaDoorSn
namespace Go.Proofs.YtjopjffecnflkaaDoor
open Go.RowKit
namespace Su
open Cr
theorem tmod2 {x : Int} (h : 0 ≤ x) : Int.tmod x 2 = x % 2 := Int.tmod_eq_emod_of_nonneg h
set_option maxHeartbeats 8000000 in
theorem superWrites_walk (s : Sb) (hs : s.Fit) (W : World) (T : Tab W) : Calls Tryd.prog 3 #[s.val] W fun e w' => e = .returned (.bool true) ∧ Below W.heap.size W w' := by
  have hPl := fun w => plain_any s w
  have hRc := fun w => rchk_any s hs w
  have hEn := fun w T => encode_any s hs w T
  have hCk := fun w => schk_any s hs w
  have hSl := fun w => slot_any s w
  by_cases h : chk s = 0
  · have hSe := fun w => rsec_any s hs h w
    have he : s.enc = s.sec := if_pos h
    have hk := (chk_ok h).2.2.1
    rw [he, h] at hEn
    rw [h] at hRc hCk
    clear he h hs
    generalize s.sec = t at *
    obtain ⟨key, ep, ser, siz, tail, num⟩ := s
    simp only [Sb.val] at hPl hRc hEn hCk hSl hSe hk ⊢
    have hm := tmod2 hk
    have X := boxC W (key) (ep) (ser) (siz) (tail) (num) 24
    have BB := below_alloc W (.cells #[.int .u64 ((key : Nat) : Int), .int .i64 (ep), .int .i64 (ser), .int .i64 (siz), .int .i64 (tail), .int .i64 (num)] 24)
    go_enter Tryd.func3, Tryd.ntmps3
    go_wp2_with fail
    refine (hPl _).mono ?_
    rintro e w1 ⟨rfl, b1⟩
    replace X := X.later (b1.mono X.lt)
    replace BB := BB.trans (b1.mono BB.size)
    clear b1 
    have Xc0_1 := X.c0
    have Xc1_1 := X.c1
    have Xc2_1 := X.c2
    have Xc3_1 := X.c3
    have Xc4_1 := X.c4
    have Xc5_1 := X.c5
    go_wp2_with fail
    refine (hRc _).mono ?_
    rintro e w2 ⟨rfl, b2⟩
    clear Xc0_1 Xc1_1 Xc2_1 Xc3_1 Xc4_1 Xc5_1
    replace X := X.later (b2.mono X.lt)
    replace BB := BB.trans (b2.mono BB.size)
    clear b2 
    have Xc0_2 := X.c0
    have Xc1_2 := X.c1
    have Xc2_2 := X.c2
    have Xc3_2 := X.c3
    have Xc4_2 := X.c4
    have Xc5_2 := X.c5
    go_wp2_with fail
    refine (hEn _ (T.later BB)).mono ?_
    rintro e w3 ⟨rfl, b3⟩
    clear Xc0_2 Xc1_2 Xc2_2 Xc3_2 Xc4_2 Xc5_2
    replace X := X.later (b3.mono X.lt)
    replace BB := BB.trans (b3.mono BB.size)
    clear b3 
    have Xc0_3 := X.c0
    have Xc1_3 := X.c1
    have Xc2_3 := X.c2
    have Xc3_3 := X.c3
    have Xc4_3 := X.c4
    have Xc5_3 := X.c5
    go_wp2_with fail
    refine (hCk _).mono ?_
    rintro e w4 ⟨rfl, b4⟩
    clear Xc0_3 Xc1_3 Xc2_3 Xc3_3 Xc4_3 Xc5_3
    replace X := X.later (b4.mono X.lt)
    replace BB := BB.trans (b4.mono BB.size)
    clear b4 
    have Xc0_4 := X.c0
    have Xc1_4 := X.c1
    have Xc2_4 := X.c2
    have Xc3_4 := X.c3
    have Xc4_4 := X.c4
    have Xc5_4 := X.c5
    have Tq := T.later BB
    clear Xc0_4 Xc1_4 Xc2_4 Xc3_4 Xc4_4 Xc5_4
    have hne5 := later_ne w4
    have qX0 : ∀ p : Later w4, p.val.cell? ⟨W.heap.size, 0, none⟩ = some (.int .u64 ((key : Nat) : Int)) := fun p => (X.later (p.below.mono X.lt)).c0
    have qX1 : ∀ p : Later w4, p.val.cell? ⟨W.heap.size, 1, none⟩ = some (.int .i64 (ep)) := fun p => (X.later (p.below.mono X.lt)).c1
    have qX2 : ∀ p : Later w4, p.val.cell? ⟨W.heap.size, 2, none⟩ = some (.int .i64 (ser)) := fun p => (X.later (p.below.mono X.lt)).c2
    have qX3 : ∀ p : Later w4, p.val.cell? ⟨W.heap.size, 3, none⟩ = some (.int .i64 (siz)) := fun p => (X.later (p.below.mono X.lt)).c3
    have qX4 : ∀ p : Later w4, p.val.cell? ⟨W.heap.size, 4, none⟩ = some (.int .i64 (tail)) := fun p => (X.later (p.below.mono X.lt)).c4
    have qX5 : ∀ p : Later w4, p.val.cell? ⟨W.heap.size, 5, none⟩ = some (.int .i64 (num)) := fun p => (X.later (p.below.mono X.lt)).c5
    go_wp2
    refine wp_region_later (by kernel_rfl) (by kernel_rfl) ?_
    (repeat (first | go_big_quiet_skip | (go_big_quiet_want; go_big_quiet_op; go_big_quiet_on)))
    (go_big_quiet_want; go_big_quiet_op; apply Exists.intro; refine ⟨fun p => ?_, ?_⟩; (· exact later_of (hPl _)); go_big_quiet_on)
    (repeat (first | go_big_quiet_skip | (go_big_quiet_want; go_big_quiet_op; go_big_quiet_on)))
    (go_big_quiet_want; go_big_quiet_op; apply Exists.intro; refine ⟨fun p => ?_, ?_⟩; (· exact later_of (hSe _)); go_big_quiet_on)
    (repeat (first | go_big_quiet_skip | (go_big_quiet_want; go_big_quiet_op; go_big_quiet_on)))
    (go_big_quiet_want; go_big_quiet_op; apply Exists.intro; refine ⟨fun p => ?_, ?_⟩; (· exact later_of (hSl _)); go_big_quiet_on)
    (repeat (first | go_big_quiet_skip | (go_big_quiet_want; go_big_quiet_op; go_big_quiet_on)))
    (go_big_quiet_want; go_big_quiet_op; apply Exists.intro; refine ⟨fun p => ?_, ?_⟩; (· exact later_of (awake_any _ (Tq.later p.below))); go_big_quiet_on)
    (repeat (first | go_big_quiet_skip | (go_big_quiet_want; go_big_quiet_op; go_big_quiet_on)))
    refine wpQuiet_nil ?_
    rintro _ ⟨p5, rfl⟩
    replace X := X.later (p5.below.mono X.lt)
    replace BB := BB.trans (p5.below.mono BB.size)
    clear hne5 qX0 qX1 qX2 qX3 qX4 qX5
    go_wp2
    go_ret
    exact ⟨rfl, BB⟩

  · have he : s.enc = ByteArray.empty := if_neg h
    rw [he] at hEn
    clear he hs hSl
    generalize chk s = c at *
    obtain ⟨key, ep, ser, siz, tail, num⟩ := s
    simp only [Sb.val] at hPl hRc hEn hCk ⊢
    have X := boxC W (key) (ep) (ser) (siz) (tail) (num) 24
    have BB := below_alloc W (.cells #[.int .u64 ((key : Nat) : Int), .int .i64 (ep), .int .i64 (ser), .int .i64 (siz), .int .i64 (tail), .int .i64 (num)] 24)
    go_enter Tryd.func3, Tryd.ntmps3
    go_wp2_with fail
    refine (hPl _).mono ?_
    rintro e w1 ⟨rfl, b1⟩
    replace X := X.later (b1.mono X.lt)
    replace BB := BB.trans (b1.mono BB.size)
    clear b1 
    have Xc0_1 := X.c0
    have Xc1_1 := X.c1
    have Xc2_1 := X.c2
    have Xc3_1 := X.c3
    have Xc4_1 := X.c4
    have Xc5_1 := X.c5
    go_wp2_with fail
    refine (hRc _).mono ?_
    rintro e w2 ⟨rfl, b2⟩
    clear Xc0_1 Xc1_1 Xc2_1 Xc3_1 Xc4_1 Xc5_1
    replace X := X.later (b2.mono X.lt)
    replace BB := BB.trans (b2.mono BB.size)
    clear b2 
    have Xc0_2 := X.c0
    have Xc1_2 := X.c1
    have Xc2_2 := X.c2
    have Xc3_2 := X.c3
    have Xc4_2 := X.c4
    have Xc5_2 := X.c5
    go_wp2_with fail
    refine (hEn _ (T.later BB)).mono ?_
    rintro e w3 ⟨rfl, b3⟩
    clear Xc0_2 Xc1_2 Xc2_2 Xc3_2 Xc4_2 Xc5_2
    replace X := X.later (b3.mono X.lt)
    replace BB := BB.trans (b3.mono BB.size)
    clear b3 
    have Xc0_3 := X.c0
    have Xc1_3 := X.c1
    have Xc2_3 := X.c2
    have Xc3_3 := X.c3
    have Xc4_3 := X.c4
    have Xc5_3 := X.c5
    go_wp2_with fail
    refine (hCk _).mono ?_
    rintro e w4 ⟨rfl, b4⟩
    clear Xc0_3 Xc1_3 Xc2_3 Xc3_3 Xc4_3 Xc5_3
    replace X := X.later (b4.mono X.lt)
    replace BB := BB.trans (b4.mono BB.size)
    clear b4 
    have Xc0_4 := X.c0
    have Xc1_4 := X.c1
    have Xc2_4 := X.c2
    have Xc3_4 := X.c3
    have Xc4_4 := X.c4
    have Xc5_4 := X.c5
    go_wp2_with fail
    refine (awake_any _ (T.later BB)).mono ?_
    rintro e w5 ⟨rfl, b5⟩
    clear Xc0_4 Xc1_4 Xc2_4 Xc3_4 Xc4_4 Xc5_4
    replace X := X.later (b5.mono X.lt)
    replace BB := BB.trans (b5.mono BB.size)
    clear b5 
    have Xc0_5 := X.c0
    have Xc1_5 := X.c1
    have Xc2_5 := X.c2
    have Xc3_5 := X.c3
    have Xc4_5 := X.c4
    have Xc5_5 := X.c5
    go_wp2
    go_ret
    exact ⟨rfl, BB⟩
end Su
end Go.Proofs.YtjopjffecnflkaaDoor
