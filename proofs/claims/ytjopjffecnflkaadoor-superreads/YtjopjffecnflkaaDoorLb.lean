/- The law SuperReads, walked. -/
import Derived.Test.YtjopjffecnflkaaDoorSn
namespace Go.Proofs.YtjopjffecnflkaaDoor
open Go.RowKit
namespace Su
open Cr
set_option maxHeartbeats 8000000 in
theorem superReads_walk (a b : ByteArray) (ha : a.size ≤ 9223372036854775807) (hb : b.size ≤ 9223372036854775807) (W : World) (T : Tab W) : Calls Tryd.prog 4 #[.string a, .string b] W fun e w' => e = .returned (.bool true) ∧ Below W.heap.size W w' := by
  by_cases h1 : 100 < a.size
  · have h1' : (100 : Int) < (a.size : Int) := by omega
    have BB := Below.refl W.heap.size W
    go_enter Tryd.func4, Tryd.ntmps4
    go_wp2_with fail
    refine (awake_any _ T).mono ?_
    rintro e w1 ⟨rfl, b1⟩
    replace BB := BB.trans (b1.mono BB.size)
    clear b1 
    go_wp2
    go_ret
    exact ⟨rfl, BB⟩

  · by_cases h2 : 100 < b.size
    · have h2' : (100 : Int) < (b.size : Int) := by omega
      have BB := Below.refl W.heap.size W
      go_enter Tryd.func4, Tryd.ntmps4
      go_wp2_with fail
      refine (awake_any _ T).mono ?_
      rintro e w1 ⟨rfl, b1⟩
      replace BB := BB.trans (b1.mono BB.size)
      clear b1 
      go_wp2
      go_ret
      exact ⟨rfl, BB⟩

    · have hD := fun w T => decode_any a (by omega) w T
      have hR := fun w => rdecode_any a (by omega) w
      have hPk := fun w T => pick_any a b (by omega) (by omega) w T
      have hRp := fun w => rpick_any a b (by omega) (by omega) w
      have hPl := fun w => plain_any (decS a).1 w
      have hPp := fun w => plain_any (pickS a b).1 w
      generalize decS a = D at *
      generalize pickS a b = P at *
      obtain ⟨⟨dk, de, dr, dz, dt, dn⟩, df⟩ := D
      obtain ⟨⟨pk, pe, pr, pz, pt, pn⟩, ps, pf⟩ := P
      simp only [Sb.val] at hD hR hPk hRp hPl hPp
      have BB := Below.refl W.heap.size W
      go_enter Tryd.func4, Tryd.ntmps4
      go_wp2_with fail
      refine (hD _ (T.later BB)).mono ?_
      rintro e w1 ⟨rfl, b1⟩
      replace BB := BB.trans (b1.mono BB.size)
      clear b1 
      have b2 := below_alloc w1 (.cells #[.int .u64 ((dk : Nat) : Int), .int .i64 (de), .int .i64 (dr), .int .i64 (dz), .int .i64 (dt), .int .i64 (dn)] 24)
      have X : BoxC (w1.alloc (.cells #[.int .u64 ((dk : Nat) : Int), .int .i64 (de), .int .i64 (dr), .int .i64 (dz), .int .i64 (dt), .int .i64 (dn)] 24)) w1.heap.size (dk) (de) (dr) (dz) (dt) (dn) := boxC w1 (dk) (de) (dr) (dz) (dt) (dn) 24
      replace BB := BB.trans (b2.mono BB.size)
      clear b2
      have Xc0_1 := X.c0
      have Xc1_1 := X.c1
      have Xc2_1 := X.c2
      have Xc3_1 := X.c3
      have Xc4_1 := X.c4
      have Xc5_1 := X.c5
      go_wp2_with fail
      refine (hR _).mono ?_
      rintro e w3 ⟨rfl, b3⟩
      clear Xc0_1 Xc1_1 Xc2_1 Xc3_1 Xc4_1 Xc5_1
      replace X := X.later (b3.mono X.lt)
      replace BB := BB.trans (b3.mono BB.size)
      clear b3 
      have Xc0_2 := X.c0
      have Xc1_2 := X.c1
      have Xc2_2 := X.c2
      have Xc3_2 := X.c3
      have Xc4_2 := X.c4
      have Xc5_2 := X.c5
      have b4 := below_alloc w3 (.cells #[.int .u64 ((dk : Nat) : Int), .int .i64 (de), .int .i64 (dr), .int .i64 (dz), .int .i64 (dt), .int .i64 (dn)] 27)
      have Y : BoxC (w3.alloc (.cells #[.int .u64 ((dk : Nat) : Int), .int .i64 (de), .int .i64 (dr), .int .i64 (dz), .int .i64 (dt), .int .i64 (dn)] 27)) w3.heap.size (dk) (de) (dr) (dz) (dt) (dn) := boxC w3 (dk) (de) (dr) (dz) (dt) (dn) 27
      replace X := X.later (b4.mono X.lt)
      replace BB := BB.trans (b4.mono BB.size)
      clear b4
      have Xc0_3 := X.c0
      have Xc1_3 := X.c1
      have Xc2_3 := X.c2
      have Xc3_3 := X.c3
      have Xc4_3 := X.c4
      have Xc5_3 := X.c5
      have Yc0_4 := Y.c0
      have Yc1_4 := Y.c1
      have Yc2_4 := Y.c2
      have Yc3_4 := Y.c3
      have Yc4_4 := Y.c4
      have Yc5_4 := Y.c5
      clear Xc0_3 Xc1_3 Xc2_3 Xc3_3 Xc4_3 Xc5_3
      clear Yc0_4 Yc1_4 Yc2_4 Yc3_4 Yc4_4 Yc5_4
      clear Xc0_2 Xc1_2 Xc2_2 Xc3_2 Xc4_2 Xc5_2
      have hne5 := later_ne (w3.alloc (.cells #[.int .u64 ((dk : Nat) : Int), .int .i64 (de), .int .i64 (dr), .int .i64 (dz), .int .i64 (dt), .int .i64 (dn)] 27))
      have qX0 : ∀ p : Later (w3.alloc (.cells #[.int .u64 ((dk : Nat) : Int), .int .i64 (de), .int .i64 (dr), .int .i64 (dz), .int .i64 (dt), .int .i64 (dn)] 27)), p.val.cell? ⟨w1.heap.size, 0, none⟩ = some (.int .u64 ((dk : Nat) : Int)) := fun p => (X.later (p.below.mono X.lt)).c0
      have qX1 : ∀ p : Later (w3.alloc (.cells #[.int .u64 ((dk : Nat) : Int), .int .i64 (de), .int .i64 (dr), .int .i64 (dz), .int .i64 (dt), .int .i64 (dn)] 27)), p.val.cell? ⟨w1.heap.size, 1, none⟩ = some (.int .i64 (de)) := fun p => (X.later (p.below.mono X.lt)).c1
      have qX2 : ∀ p : Later (w3.alloc (.cells #[.int .u64 ((dk : Nat) : Int), .int .i64 (de), .int .i64 (dr), .int .i64 (dz), .int .i64 (dt), .int .i64 (dn)] 27)), p.val.cell? ⟨w1.heap.size, 2, none⟩ = some (.int .i64 (dr)) := fun p => (X.later (p.below.mono X.lt)).c2
      have qX3 : ∀ p : Later (w3.alloc (.cells #[.int .u64 ((dk : Nat) : Int), .int .i64 (de), .int .i64 (dr), .int .i64 (dz), .int .i64 (dt), .int .i64 (dn)] 27)), p.val.cell? ⟨w1.heap.size, 3, none⟩ = some (.int .i64 (dz)) := fun p => (X.later (p.below.mono X.lt)).c3
      have qX4 : ∀ p : Later (w3.alloc (.cells #[.int .u64 ((dk : Nat) : Int), .int .i64 (de), .int .i64 (dr), .int .i64 (dz), .int .i64 (dt), .int .i64 (dn)] 27)), p.val.cell? ⟨w1.heap.size, 4, none⟩ = some (.int .i64 (dt)) := fun p => (X.later (p.below.mono X.lt)).c4
      have qX5 : ∀ p : Later (w3.alloc (.cells #[.int .u64 ((dk : Nat) : Int), .int .i64 (de), .int .i64 (dr), .int .i64 (dz), .int .i64 (dt), .int .i64 (dn)] 27)), p.val.cell? ⟨w1.heap.size, 5, none⟩ = some (.int .i64 (dn)) := fun p => (X.later (p.below.mono X.lt)).c5
      have qY0 : ∀ p : Later (w3.alloc (.cells #[.int .u64 ((dk : Nat) : Int), .int .i64 (de), .int .i64 (dr), .int .i64 (dz), .int .i64 (dt), .int .i64 (dn)] 27)), p.val.cell? ⟨w3.heap.size, 0, none⟩ = some (.int .u64 ((dk : Nat) : Int)) := fun p => (Y.later (p.below.mono Y.lt)).c0
      have qY1 : ∀ p : Later (w3.alloc (.cells #[.int .u64 ((dk : Nat) : Int), .int .i64 (de), .int .i64 (dr), .int .i64 (dz), .int .i64 (dt), .int .i64 (dn)] 27)), p.val.cell? ⟨w3.heap.size, 1, none⟩ = some (.int .i64 (de)) := fun p => (Y.later (p.below.mono Y.lt)).c1
      have qY2 : ∀ p : Later (w3.alloc (.cells #[.int .u64 ((dk : Nat) : Int), .int .i64 (de), .int .i64 (dr), .int .i64 (dz), .int .i64 (dt), .int .i64 (dn)] 27)), p.val.cell? ⟨w3.heap.size, 2, none⟩ = some (.int .i64 (dr)) := fun p => (Y.later (p.below.mono Y.lt)).c2
      have qY3 : ∀ p : Later (w3.alloc (.cells #[.int .u64 ((dk : Nat) : Int), .int .i64 (de), .int .i64 (dr), .int .i64 (dz), .int .i64 (dt), .int .i64 (dn)] 27)), p.val.cell? ⟨w3.heap.size, 3, none⟩ = some (.int .i64 (dz)) := fun p => (Y.later (p.below.mono Y.lt)).c3
      have qY4 : ∀ p : Later (w3.alloc (.cells #[.int .u64 ((dk : Nat) : Int), .int .i64 (de), .int .i64 (dr), .int .i64 (dz), .int .i64 (dt), .int .i64 (dn)] 27)), p.val.cell? ⟨w3.heap.size, 4, none⟩ = some (.int .i64 (dt)) := fun p => (Y.later (p.below.mono Y.lt)).c4
      have qY5 : ∀ p : Later (w3.alloc (.cells #[.int .u64 ((dk : Nat) : Int), .int .i64 (de), .int .i64 (dr), .int .i64 (dz), .int .i64 (dt), .int .i64 (dn)] 27)), p.val.cell? ⟨w3.heap.size, 5, none⟩ = some (.int .i64 (dn)) := fun p => (Y.later (p.below.mono Y.lt)).c5
      go_wp2
      refine wp_region_later (by kernel_rfl) (by kernel_rfl) ?_
      (repeat (first | go_big_quiet_skip | (go_big_quiet_want; go_big_quiet_op; go_big_quiet_on)))
      (go_big_quiet_want; go_big_quiet_op; apply Exists.intro; refine ⟨fun p => ?_, ?_⟩; (· exact later_of (hPl _)); go_big_quiet_on)
      (repeat (first | go_big_quiet_skip | (go_big_quiet_want; go_big_quiet_op; go_big_quiet_on)))
      refine wpQuiet_nil ?_
      rintro _ ⟨p5, rfl⟩
      replace X := X.later (p5.below.mono X.lt)
      replace Y := Y.later (p5.below.mono Y.lt)
      replace BB := BB.trans (p5.below.mono BB.size)
      clear hne5 qX0 qX1 qX2 qX3 qX4 qX5 qY0 qY1 qY2 qY3 qY4 qY5
      go_wp2_with fail
      refine (hPk _ (T.later BB)).mono ?_
      rintro e w6 ⟨rfl, b6⟩
      replace X := X.later (b6.mono X.lt)
      replace Y := Y.later (b6.mono Y.lt)
      replace BB := BB.trans (b6.mono BB.size)
      clear b6 
      have b7 := below_alloc w6 (.cells #[.int .u64 ((pk : Nat) : Int), .int .i64 (pe), .int .i64 (pr), .int .i64 (pz), .int .i64 (pt), .int .i64 (pn)] 24)
      have Z : BoxC (w6.alloc (.cells #[.int .u64 ((pk : Nat) : Int), .int .i64 (pe), .int .i64 (pr), .int .i64 (pz), .int .i64 (pt), .int .i64 (pn)] 24)) w6.heap.size (pk) (pe) (pr) (pz) (pt) (pn) := boxC w6 (pk) (pe) (pr) (pz) (pt) (pn) 24
      replace X := X.later (b7.mono X.lt)
      replace Y := Y.later (b7.mono Y.lt)
      replace BB := BB.trans (b7.mono BB.size)
      clear b7
      have Zc0_5 := Z.c0
      have Zc1_5 := Z.c1
      have Zc2_5 := Z.c2
      have Zc3_5 := Z.c3
      have Zc4_5 := Z.c4
      have Zc5_5 := Z.c5
      go_wp2_with fail
      refine (hRp _).mono ?_
      rintro e w8 ⟨rfl, b8⟩
      clear Zc0_5 Zc1_5 Zc2_5 Zc3_5 Zc4_5 Zc5_5
      replace X := X.later (b8.mono X.lt)
      replace Y := Y.later (b8.mono Y.lt)
      replace Z := Z.later (b8.mono Z.lt)
      replace BB := BB.trans (b8.mono BB.size)
      clear b8 
      have Zc0_6 := Z.c0
      have Zc1_6 := Z.c1
      have Zc2_6 := Z.c2
      have Zc3_6 := Z.c3
      have Zc4_6 := Z.c4
      have Zc5_6 := Z.c5
      have b9 := below_alloc w8 (.cells #[.int .u64 ((pk : Nat) : Int), .int .i64 (pe), .int .i64 (pr), .int .i64 (pz), .int .i64 (pt), .int .i64 (pn)] 27)
      have V : BoxC (w8.alloc (.cells #[.int .u64 ((pk : Nat) : Int), .int .i64 (pe), .int .i64 (pr), .int .i64 (pz), .int .i64 (pt), .int .i64 (pn)] 27)) w8.heap.size (pk) (pe) (pr) (pz) (pt) (pn) := boxC w8 (pk) (pe) (pr) (pz) (pt) (pn) 27
      replace X := X.later (b9.mono X.lt)
      replace Y := Y.later (b9.mono Y.lt)
      replace Z := Z.later (b9.mono Z.lt)
      replace BB := BB.trans (b9.mono BB.size)
      clear b9
      have Zc0_7 := Z.c0
      have Zc1_7 := Z.c1
      have Zc2_7 := Z.c2
      have Zc3_7 := Z.c3
      have Zc4_7 := Z.c4
      have Zc5_7 := Z.c5
      have Vc0_8 := V.c0
      have Vc1_8 := V.c1
      have Vc2_8 := V.c2
      have Vc3_8 := V.c3
      have Vc4_8 := V.c4
      have Vc5_8 := V.c5
      have Tq := T.later BB
      clear Zc0_7 Zc1_7 Zc2_7 Zc3_7 Zc4_7 Zc5_7
      clear Vc0_8 Vc1_8 Vc2_8 Vc3_8 Vc4_8 Vc5_8
      clear Zc0_6 Zc1_6 Zc2_6 Zc3_6 Zc4_6 Zc5_6
      have hne10 := later_ne (w8.alloc (.cells #[.int .u64 ((pk : Nat) : Int), .int .i64 (pe), .int .i64 (pr), .int .i64 (pz), .int .i64 (pt), .int .i64 (pn)] 27))
      have qZ0 : ∀ p : Later (w8.alloc (.cells #[.int .u64 ((pk : Nat) : Int), .int .i64 (pe), .int .i64 (pr), .int .i64 (pz), .int .i64 (pt), .int .i64 (pn)] 27)), p.val.cell? ⟨w6.heap.size, 0, none⟩ = some (.int .u64 ((pk : Nat) : Int)) := fun p => (Z.later (p.below.mono Z.lt)).c0
      have qZ1 : ∀ p : Later (w8.alloc (.cells #[.int .u64 ((pk : Nat) : Int), .int .i64 (pe), .int .i64 (pr), .int .i64 (pz), .int .i64 (pt), .int .i64 (pn)] 27)), p.val.cell? ⟨w6.heap.size, 1, none⟩ = some (.int .i64 (pe)) := fun p => (Z.later (p.below.mono Z.lt)).c1
      have qZ2 : ∀ p : Later (w8.alloc (.cells #[.int .u64 ((pk : Nat) : Int), .int .i64 (pe), .int .i64 (pr), .int .i64 (pz), .int .i64 (pt), .int .i64 (pn)] 27)), p.val.cell? ⟨w6.heap.size, 2, none⟩ = some (.int .i64 (pr)) := fun p => (Z.later (p.below.mono Z.lt)).c2
      have qZ3 : ∀ p : Later (w8.alloc (.cells #[.int .u64 ((pk : Nat) : Int), .int .i64 (pe), .int .i64 (pr), .int .i64 (pz), .int .i64 (pt), .int .i64 (pn)] 27)), p.val.cell? ⟨w6.heap.size, 3, none⟩ = some (.int .i64 (pz)) := fun p => (Z.later (p.below.mono Z.lt)).c3
      have qZ4 : ∀ p : Later (w8.alloc (.cells #[.int .u64 ((pk : Nat) : Int), .int .i64 (pe), .int .i64 (pr), .int .i64 (pz), .int .i64 (pt), .int .i64 (pn)] 27)), p.val.cell? ⟨w6.heap.size, 4, none⟩ = some (.int .i64 (pt)) := fun p => (Z.later (p.below.mono Z.lt)).c4
      have qZ5 : ∀ p : Later (w8.alloc (.cells #[.int .u64 ((pk : Nat) : Int), .int .i64 (pe), .int .i64 (pr), .int .i64 (pz), .int .i64 (pt), .int .i64 (pn)] 27)), p.val.cell? ⟨w6.heap.size, 5, none⟩ = some (.int .i64 (pn)) := fun p => (Z.later (p.below.mono Z.lt)).c5
      have qV0 : ∀ p : Later (w8.alloc (.cells #[.int .u64 ((pk : Nat) : Int), .int .i64 (pe), .int .i64 (pr), .int .i64 (pz), .int .i64 (pt), .int .i64 (pn)] 27)), p.val.cell? ⟨w8.heap.size, 0, none⟩ = some (.int .u64 ((pk : Nat) : Int)) := fun p => (V.later (p.below.mono V.lt)).c0
      have qV1 : ∀ p : Later (w8.alloc (.cells #[.int .u64 ((pk : Nat) : Int), .int .i64 (pe), .int .i64 (pr), .int .i64 (pz), .int .i64 (pt), .int .i64 (pn)] 27)), p.val.cell? ⟨w8.heap.size, 1, none⟩ = some (.int .i64 (pe)) := fun p => (V.later (p.below.mono V.lt)).c1
      have qV2 : ∀ p : Later (w8.alloc (.cells #[.int .u64 ((pk : Nat) : Int), .int .i64 (pe), .int .i64 (pr), .int .i64 (pz), .int .i64 (pt), .int .i64 (pn)] 27)), p.val.cell? ⟨w8.heap.size, 2, none⟩ = some (.int .i64 (pr)) := fun p => (V.later (p.below.mono V.lt)).c2
      have qV3 : ∀ p : Later (w8.alloc (.cells #[.int .u64 ((pk : Nat) : Int), .int .i64 (pe), .int .i64 (pr), .int .i64 (pz), .int .i64 (pt), .int .i64 (pn)] 27)), p.val.cell? ⟨w8.heap.size, 3, none⟩ = some (.int .i64 (pz)) := fun p => (V.later (p.below.mono V.lt)).c3
      have qV4 : ∀ p : Later (w8.alloc (.cells #[.int .u64 ((pk : Nat) : Int), .int .i64 (pe), .int .i64 (pr), .int .i64 (pz), .int .i64 (pt), .int .i64 (pn)] 27)), p.val.cell? ⟨w8.heap.size, 4, none⟩ = some (.int .i64 (pt)) := fun p => (V.later (p.below.mono V.lt)).c4
      have qV5 : ∀ p : Later (w8.alloc (.cells #[.int .u64 ((pk : Nat) : Int), .int .i64 (pe), .int .i64 (pr), .int .i64 (pz), .int .i64 (pt), .int .i64 (pn)] 27)), p.val.cell? ⟨w8.heap.size, 5, none⟩ = some (.int .i64 (pn)) := fun p => (V.later (p.below.mono V.lt)).c5
      go_wp2
      refine wp_region_later (by kernel_rfl) (by kernel_rfl) ?_
      (repeat (first | go_big_quiet_skip | (go_big_quiet_want; go_big_quiet_op; go_big_quiet_on)))
      (go_big_quiet_want; go_big_quiet_op; apply Exists.intro; refine ⟨fun p => ?_, ?_⟩; (· exact later_of (hPp _)); go_big_quiet_on)
      (repeat (first | go_big_quiet_skip | (go_big_quiet_want; go_big_quiet_op; go_big_quiet_on)))
      (go_big_quiet_want; go_big_quiet_op; apply Exists.intro; refine ⟨fun p => ?_, ?_⟩; (· exact later_of (awake_any _ (Tq.later p.below))); go_big_quiet_on)
      (repeat (first | go_big_quiet_skip | (go_big_quiet_want; go_big_quiet_op; go_big_quiet_on)))
      refine wpQuiet_nil ?_
      rintro _ ⟨p10, rfl⟩
      replace X := X.later (p10.below.mono X.lt)
      replace Y := Y.later (p10.below.mono Y.lt)
      replace Z := Z.later (p10.below.mono Z.lt)
      replace V := V.later (p10.below.mono V.lt)
      replace BB := BB.trans (p10.below.mono BB.size)
      clear hne10 qZ0 qZ1 qZ2 qZ3 qZ4 qZ5 qV0 qV1 qV2 qV3 qV4 qV5
      go_wp2
      go_ret
      exact ⟨rfl, BB⟩
end Su
end Go.Proofs.YtjopjffecnflkaaDoor
