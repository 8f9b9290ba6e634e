/- The law SuperTorn, walked, case by case. -/
import Derived.Test.YtjopjffecnflkaaDoorSn
import Derived.Test.YtjopjffecnflkaaDoorSq
namespace Go.Proofs.YtjopjffecnflkaaDoor
open Go.RowKit
namespace Su
open Cr
def Spec.sbox (B : Nat) (k : Nat) (e r z t n : Int) : Spec := ⟨fun v w => ∃ g, v = .pointer (some ⟨g, 0, none⟩) ∧ B ≤ g ∧ BoxC w g k e r z t n, fun _ _ _ ⟨g, h1, h2, h3⟩ hb => ⟨g, h1, h2, h3.later (hb.mono h3.lt)⟩⟩

set_option maxRecDepth 100000 in
set_option maxHeartbeats 16000000 in
theorem torn_p10 (key : Nat) (ep ser siz tail num a b : Int) (l1 : ser < 1099511627776) (l0 : 0 < ser) (C F1 Z : ByteArray) (G : ByteArray) (zF : F1.size = 64) (_zC : C.size = 64) (_zZ : Z.size = 64) (zG : G.size = 64)
    (hPl : ∀ w, Calls Tryd.prog 10 #[.agg #[.int .u64 ((key : Nat) : Int), .int .i64 (ep), .int .i64 (ser), .int .i64 (siz), .int .i64 (tail), .int .i64 (num)]] w fun e w' => e = .returned (.agg #[.int .u64 ((key : Nat) : Int), .int .i64 (ep), .int .i64 (ser), .int .i64 (siz), .int .i64 (tail), .int .i64 (num)]) ∧ Below w.heap.size w w')
    (hRc : ∀ w, Calls Tryd.prog 9 #[.agg #[.int .u64 ((key : Nat) : Int), .int .i64 (ep), .int .i64 (ser), .int .i64 (siz), .int .i64 (tail), .int .i64 (num)]] w fun e w' => e = .returned (.int .i64 0) ∧ Below w.heap.size w w')
    (hN : ∀ w, Calls Tryd.prog 20 #[.agg #[.int .u64 ((key : Nat) : Int), .int .i64 (ep), .int .i64 (ser), .int .i64 (siz), .int .i64 (tail), .int .i64 (num)], .int .i64 a, .int .i64 b] w fun e w' => e = .returned (.tuple #[.agg #[.int .u64 ((key : Nat) : Int), .int .i64 (ep), .int .i64 (ser + 1), .int .i64 (siz), .int .i64 (a), .int .i64 (b)], .int .i64 0]) ∧ Below w.heap.size w w')
    (hE1 : ∀ w, Tab w → Calls Tryd.prog 11 #[.agg #[.int .u64 ((key : Nat) : Int), .int .i64 (ep), .int .i64 (ser), .int .i64 (siz), .int .i64 (tail), .int .i64 (num)]] w fun e w' => e = .returned (.tuple #[.string C, .int .i64 0]) ∧ Below w.heap.size w w')
    (hE2 : ∀ w, Tab w → Calls Tryd.prog 11 #[.agg #[.int .u64 ((key : Nat) : Int), .int .i64 (ep), .int .i64 (ser + 1), .int .i64 (siz), .int .i64 (a), .int .i64 (b)]] w fun e w' => e = .returned (.tuple #[.string F1, .int .i64 0]) ∧ Below w.heap.size w w')
    (hS1 : ∀ w, Calls Tryd.prog 15 #[.agg #[.int .u64 ((key : Nat) : Int), .int .i64 (ep), .int .i64 (ser), .int .i64 (siz), .int .i64 (tail), .int .i64 (num)]] w fun e w' => e = .returned (.int .i64 0) ∧ Below w.heap.size w w')
    (hS2 : ∀ w, Calls Tryd.prog 15 #[.agg #[.int .u64 ((key : Nat) : Int), .int .i64 (ep), .int .i64 (ser + 1), .int .i64 (siz), .int .i64 (a), .int .i64 (b)]] w fun e w' => e = .returned (.int .i64 1) ∧ Below w.heap.size w w')
    (hP : ∀ w, Tab w → Calls Tryd.prog 18 #[.string C, .string F1] w fun e w' => e = .returned (.tuple #[.agg #[.int .u64 ((key : Nat) : Int), .int .i64 (ep), .int .i64 (ser + 1), .int .i64 (siz), .int .i64 (a), .int .i64 (b)], .int .i64 (1), .int .i64 0]) ∧ Below w.heap.size w w')
    (hSx : ∀ w, Calls Tryd.prog 15 #[.agg #[.int .u64 ((key : Nat) : Int), .int .i64 (ep), .int .i64 (ser + 1), .int .i64 (siz), .int .i64 (a), .int .i64 (b)]] w fun e w' => e = .returned (.int .i64 (1)) ∧ Below w.heap.size w w')
    (hZ : Hid (str (List.replicate 64 0) = Z))
    (hE3 : ∀ w, Tab w → Calls Tryd.prog 11 #[.agg #[.int .u64 ((key : Nat) : Int), .int .i64 (ep), .int .i64 (ser - 1), .int .i64 (siz), .int .i64 (tail), .int .i64 (num)]] w fun e w' => e = .returned (.tuple #[.string G, .int .i64 0]) ∧ Below w.heap.size w w')
    (W : World) (T : Tab W) : Calls Tryd.prog 7 #[.agg #[.int .u64 ((key : Nat) : Int), .int .i64 (ep), .int .i64 (ser), .int .i64 (siz), .int .i64 (tail), .int .i64 (num)], .agg #[.int .i64 a, .int .i64 b], .int .i64 1] W fun e w' => e = .returned (.bool true) ∧ Below W.heap.size W w' := by
  have BB := Below.refl W.heap.size W
  have b1 := below_alloc W (.cells #[.int .u64 ((key : Nat) : Int), .int .i64 (ep), .int .i64 (ser), .int .i64 (siz), .int .i64 (tail), .int .i64 (num)] 24)
  have X : BoxC (W.alloc (.cells #[.int .u64 ((key : Nat) : Int), .int .i64 (ep), .int .i64 (ser), .int .i64 (siz), .int .i64 (tail), .int .i64 (num)] 24)) W.heap.size (key) (ep) (ser) (siz) (tail) (num) := boxC W (key) (ep) (ser) (siz) (tail) (num) 24
  replace BB := BB.trans (b1.mono BB.size)
  clear b1
  have Xc0_1 := X.c0
  have Xc1_1 := X.c1
  have Xc2_1 := X.c2
  have Xc3_1 := X.c3
  have Xc4_1 := X.c4
  have Xc5_1 := X.c5
  have b2 := below_alloc (W.alloc (.cells #[.int .u64 ((key : Nat) : Int), .int .i64 (ep), .int .i64 (ser), .int .i64 (siz), .int .i64 (tail), .int .i64 (num)] 24)) (.cells #[.int .i64 a, .int .i64 b] 49)
  have D : R2 ((W.alloc (.cells #[.int .u64 ((key : Nat) : Int), .int .i64 (ep), .int .i64 (ser), .int .i64 (siz), .int .i64 (tail), .int .i64 (num)] 24)).alloc (.cells #[.int .i64 a, .int .i64 b] 49)) (W.alloc (.cells #[.int .u64 ((key : Nat) : Int), .int .i64 (ep), .int .i64 (ser), .int .i64 (siz), .int .i64 (tail), .int .i64 (num)] 24)).heap.size (.int .i64 a) (.int .i64 b) := r2_new _ _ _ _
  simp only [World.size_alloc] at D
  replace X := X.later (b2.mono X.lt)
  replace BB := BB.trans (b2.mono BB.size)
  clear b2
  have Xc0_2 := X.c0
  have Xc1_2 := X.c1
  have Xc2_2 := X.c2
  have Xc3_2 := X.c3
  have Xc4_2 := X.c4
  have Xc5_2 := X.c5
  have Dc0_3 := D.c0
  have Dc1_3 := D.c1
  go_enter Tryd.func7, Tryd.ntmps7
  go_wp2_with fail
  refine (hPl _).mono ?_
  rintro e w3 ⟨rfl, b3⟩
  clear Xc0_2 Xc1_2 Xc2_2 Xc3_2 Xc4_2 Xc5_2
  clear Dc0_3 Dc1_3
  clear Xc0_1 Xc1_1 Xc2_1 Xc3_1 Xc4_1 Xc5_1
  replace X := X.later (b3.mono X.lt)
  replace D := D.later (b3.mono D.lt)
  replace BB := BB.trans (b3.mono BB.size)
  clear b3 
  have Xc0_4 := X.c0
  have Xc1_4 := X.c1
  have Xc2_4 := X.c2
  have Xc3_4 := X.c3
  have Xc4_4 := X.c4
  have Xc5_4 := X.c5
  have Dc0_5 := D.c0
  have Dc1_5 := D.c1
  go_wp2_with fail
  refine (hRc _).mono ?_
  rintro e w4 ⟨rfl, b4⟩
  clear Xc0_4 Xc1_4 Xc2_4 Xc3_4 Xc4_4 Xc5_4
  clear Dc0_5 Dc1_5
  replace X := X.later (b4.mono X.lt)
  replace D := D.later (b4.mono D.lt)
  replace BB := BB.trans (b4.mono BB.size)
  clear b4 
  have Xc0_6 := X.c0
  have Xc1_6 := X.c1
  have Xc2_6 := X.c2
  have Xc3_6 := X.c3
  have Xc4_6 := X.c4
  have Xc5_6 := X.c5
  have Dc0_7 := D.c0
  have Dc1_7 := D.c1
  go_wp2_with fail
  refine (hN _).mono ?_
  rintro e w5 ⟨rfl, b5⟩
  clear Xc0_6 Xc1_6 Xc2_6 Xc3_6 Xc4_6 Xc5_6
  clear Dc0_7 Dc1_7
  replace X := X.later (b5.mono X.lt)
  replace D := D.later (b5.mono D.lt)
  replace BB := BB.trans (b5.mono BB.size)
  clear b5 
  have Xc0_8 := X.c0
  have Xc1_8 := X.c1
  have Xc2_8 := X.c2
  have Xc3_8 := X.c3
  have Xc4_8 := X.c4
  have Xc5_8 := X.c5
  have Dc0_9 := D.c0
  have Dc1_9 := D.c1
  have b6 := below_alloc w5 (.cells #[.int .u64 ((key : Nat) : Int), .int .i64 (ep), .int .i64 (ser + 1), .int .i64 (siz), .int .i64 (a), .int .i64 (b)] 24)
  have Y : BoxC (w5.alloc (.cells #[.int .u64 ((key : Nat) : Int), .int .i64 (ep), .int .i64 (ser + 1), .int .i64 (siz), .int .i64 (a), .int .i64 (b)] 24)) w5.heap.size (key) (ep) (ser + 1) (siz) (a) (b) := boxC w5 (key) (ep) (ser + 1) (siz) (a) (b) 24
  replace X := X.later (b6.mono X.lt)
  replace D := D.later (b6.mono D.lt)
  replace BB := BB.trans (b6.mono BB.size)
  clear b6
  have Xc0_10 := X.c0
  have Xc1_10 := X.c1
  have Xc2_10 := X.c2
  have Xc3_10 := X.c3
  have Xc4_10 := X.c4
  have Xc5_10 := X.c5
  have Dc0_11 := D.c0
  have Dc1_11 := D.c1
  have Yc0_12 := Y.c0
  have Yc1_12 := Y.c1
  have Yc2_12 := Y.c2
  have Yc3_12 := Y.c3
  have Yc4_12 := Y.c4
  have Yc5_12 := Y.c5
  go_wp2_with fail
  refine (hE1 _ (T.later BB)).mono ?_
  rintro e w7 ⟨rfl, b7⟩
  clear Xc0_10 Xc1_10 Xc2_10 Xc3_10 Xc4_10 Xc5_10
  clear Dc0_11 Dc1_11
  clear Yc0_12 Yc1_12 Yc2_12 Yc3_12 Yc4_12 Yc5_12
  clear Xc0_8 Xc1_8 Xc2_8 Xc3_8 Xc4_8 Xc5_8 Dc0_9 Dc1_9
  replace X := X.later (b7.mono X.lt)
  replace D := D.later (b7.mono D.lt)
  replace Y := Y.later (b7.mono Y.lt)
  replace BB := BB.trans (b7.mono BB.size)
  clear b7 
  have Xc0_13 := X.c0
  have Xc1_13 := X.c1
  have Xc2_13 := X.c2
  have Xc3_13 := X.c3
  have Xc4_13 := X.c4
  have Xc5_13 := X.c5
  have Dc0_14 := D.c0
  have Dc1_14 := D.c1
  have Yc0_15 := Y.c0
  have Yc1_15 := Y.c1
  have Yc2_15 := Y.c2
  have Yc3_15 := Y.c3
  have Yc4_15 := Y.c4
  have Yc5_15 := Y.c5
  go_wp2_with fail
  refine (hE2 _ (T.later BB)).mono ?_
  rintro e w8 ⟨rfl, b8⟩
  clear Xc0_13 Xc1_13 Xc2_13 Xc3_13 Xc4_13 Xc5_13
  clear Dc0_14 Dc1_14
  clear Yc0_15 Yc1_15 Yc2_15 Yc3_15 Yc4_15 Yc5_15
  replace X := X.later (b8.mono X.lt)
  replace D := D.later (b8.mono D.lt)
  replace Y := Y.later (b8.mono Y.lt)
  replace BB := BB.trans (b8.mono BB.size)
  clear b8 
  have Xc0_16 := X.c0
  have Xc1_16 := X.c1
  have Xc2_16 := X.c2
  have Xc3_16 := X.c3
  have Xc4_16 := X.c4
  have Xc5_16 := X.c5
  have Dc0_17 := D.c0
  have Dc1_17 := D.c1
  have Yc0_18 := Y.c0
  have Yc1_18 := Y.c1
  have Yc2_18 := Y.c2
  have Yc3_18 := Y.c3
  have Yc4_18 := Y.c4
  have Yc5_18 := Y.c5
  clear Xc0_16 Xc1_16 Xc2_16 Xc3_16 Xc4_16 Xc5_16
  clear Dc0_17 Dc1_17
  clear Yc0_18 Yc1_18 Yc2_18 Yc3_18 Yc4_18 Yc5_18
  have hne9 := later_ne w8
  have qX0 : ∀ p : Later w8, p.val.cell? ⟨W.heap.size, 0, none⟩ = some (.int .u64 ((key : Nat) : Int)) := fun p => (X.later (p.below.mono X.lt)).c0
  have qX1 : ∀ p : Later w8, p.val.cell? ⟨W.heap.size, 1, none⟩ = some (.int .i64 (ep)) := fun p => (X.later (p.below.mono X.lt)).c1
  have qX2 : ∀ p : Later w8, p.val.cell? ⟨W.heap.size, 2, none⟩ = some (.int .i64 (ser)) := fun p => (X.later (p.below.mono X.lt)).c2
  have qX3 : ∀ p : Later w8, p.val.cell? ⟨W.heap.size, 3, none⟩ = some (.int .i64 (siz)) := fun p => (X.later (p.below.mono X.lt)).c3
  have qX4 : ∀ p : Later w8, p.val.cell? ⟨W.heap.size, 4, none⟩ = some (.int .i64 (tail)) := fun p => (X.later (p.below.mono X.lt)).c4
  have qX5 : ∀ p : Later w8, p.val.cell? ⟨W.heap.size, 5, none⟩ = some (.int .i64 (num)) := fun p => (X.later (p.below.mono X.lt)).c5
  have qY0 : ∀ p : Later w8, p.val.cell? ⟨w5.heap.size, 0, none⟩ = some (.int .u64 ((key : Nat) : Int)) := fun p => (Y.later (p.below.mono Y.lt)).c0
  have qY1 : ∀ p : Later w8, p.val.cell? ⟨w5.heap.size, 1, none⟩ = some (.int .i64 (ep)) := fun p => (Y.later (p.below.mono Y.lt)).c1
  have qY2 : ∀ p : Later w8, p.val.cell? ⟨w5.heap.size, 2, none⟩ = some (.int .i64 (ser + 1)) := fun p => (Y.later (p.below.mono Y.lt)).c2
  have qY3 : ∀ p : Later w8, p.val.cell? ⟨w5.heap.size, 3, none⟩ = some (.int .i64 (siz)) := fun p => (Y.later (p.below.mono Y.lt)).c3
  have qY4 : ∀ p : Later w8, p.val.cell? ⟨w5.heap.size, 4, none⟩ = some (.int .i64 (a)) := fun p => (Y.later (p.below.mono Y.lt)).c4
  have qY5 : ∀ p : Later w8, p.val.cell? ⟨w5.heap.size, 5, none⟩ = some (.int .i64 (b)) := fun p => (Y.later (p.below.mono Y.lt)).c5
  go_wp2
  refine wp_region_later (by kernel_rfl) (by kernel_rfl) ?_
  (repeat (first | go_big_quiet_skip | (go_big_quiet_want; go_big_quiet_op; go_big_quiet_on)))
  (go_big_quiet_want; go_big_quiet_op; apply Exists.intro; refine ⟨fun p => ?_, ?_⟩; (· exact later_of (hS1 _)); go_big_quiet_on)
  (repeat (first | go_big_quiet_skip | (go_big_quiet_want; go_big_quiet_op; go_big_quiet_on)))
  (go_big_quiet_want; go_big_quiet_op; apply Exists.intro; refine ⟨fun p => ?_, ?_⟩; (· exact later_of (hS2 _)); go_big_quiet_on)
  (repeat (first | go_big_quiet_skip | (go_big_quiet_want; go_big_quiet_op; go_big_quiet_on)))
  refine wpQuiet_nil ?_
  rintro _ ⟨p9, rfl⟩
  replace X := X.later (p9.below.mono X.lt)
  replace D := D.later (p9.below.mono D.lt)
  replace Y := Y.later (p9.below.mono Y.lt)
  replace BB := BB.trans (p9.below.mono BB.size)
  clear hne9 qX0 qX1 qX2 qX3 qX4 qX5 qY0 qY1 qY2 qY3 qY4 qY5
  have hmk : (Instr.makeSlice 47 (.int .i64 64) (.int .i64 64)).run Tryd.prog p9.val = .ok (.slice (some ⟨p9.val.heap.size, 0, none⟩) 64 64) (p9.val.alloc (.cells (zs 64) 5)) := make_bytes (N := 64) (by omega) _
  have hcv : (convert 47 9 (.slice (some ⟨p9.val.heap.size, 0, none⟩) 64 64)).run Tryd.prog (p9.val.alloc (.cells (zs 64) 5)) = .ok (.string Z) (p9.val.alloc (.cells (zs 64) 5)) := by rw [← hZ.out]; exact conv_rep (fun i hi => by simp [zs_get hi])
  generalize hzz : zs 64 = ZZ at *
  have b10 := below_alloc p9.val (.cells ZZ 5)
  replace X := X.later (b10.mono X.lt)
  replace D := D.later (b10.mono D.lt)
  replace Y := Y.later (b10.mono Y.lt)
  replace BB := BB.trans (b10.mono BB.size)
  clear b10
  have Xc0_19 := X.c0
  have Xc1_19 := X.c1
  have Xc2_19 := X.c2
  have Xc3_19 := X.c3
  have Xc4_19 := X.c4
  have Xc5_19 := X.c5
  have XI := X.later ((below_alloc (p9.val.alloc (.cells ZZ 5)) (.cells #[.int .u64 ((key : Nat) : Int), .int .i64 (ep), .int .i64 (ser), .int .i64 (siz), .int .i64 (tail), .int .i64 (num)] 24)).mono X.lt)
  have XIc := XI.c2
  clear XI
  have b11 := below_alloc (p9.val.alloc (.cells ZZ 5)) (.cells #[.int .u64 ((key : Nat) : Int), .int .i64 (ep), .int .i64 (ser - 1), .int .i64 (siz), .int .i64 (tail), .int .i64 (num)] 24)
  have F : BoxC ((p9.val.alloc (.cells ZZ 5)).alloc (.cells #[.int .u64 ((key : Nat) : Int), .int .i64 (ep), .int .i64 (ser - 1), .int .i64 (siz), .int .i64 (tail), .int .i64 (num)] 24)) (p9.val.alloc (.cells ZZ 5)).heap.size (key) (ep) (ser - 1) (siz) (tail) (num) := boxC (p9.val.alloc (.cells ZZ 5)) (key) (ep) (ser - 1) (siz) (tail) (num) 24
  simp only [World.size_alloc] at F
  replace X := X.later (b11.mono X.lt)
  replace D := D.later (b11.mono D.lt)
  replace Y := Y.later (b11.mono Y.lt)
  replace BB := BB.trans (b11.mono BB.size)
  clear b11
  have Xc0_20 := X.c0
  have Xc1_20 := X.c1
  have Xc2_20 := X.c2
  have Xc3_20 := X.c3
  have Xc4_20 := X.c4
  have Xc5_20 := X.c5
  have Fc0_21 := F.c0
  have Fc1_21 := F.c1
  have Fc2_21 := F.c2
  have Fc3_21 := F.c3
  have Fc4_21 := F.c4
  have Fc5_21 := F.c5
  go_wp2_with fail
  refine (hE3 _ (T.later BB)).mono ?_
  rintro e w12 ⟨rfl, b12⟩
  clear Xc0_20 Xc1_20 Xc2_20 Xc3_20 Xc4_20 Xc5_20
  clear Fc0_21 Fc1_21 Fc2_21 Fc3_21 Fc4_21 Fc5_21
  clear XIc Xc0_19 Xc1_19 Xc2_19 Xc3_19 Xc4_19 Xc5_19
  replace X := X.later (b12.mono X.lt)
  replace D := D.later (b12.mono D.lt)
  replace Y := Y.later (b12.mono Y.lt)
  replace F := F.later (b12.mono F.lt)
  replace BB := BB.trans (b12.mono BB.size)
  clear b12 hmk hcv
  have Xc0_22 := X.c0
  have Xc1_22 := X.c1
  have Xc2_22 := X.c2
  have Xc3_22 := X.c3
  have Xc4_22 := X.c4
  have Xc5_22 := X.c5
  have Fc0_23 := F.c0
  have Fc1_23 := F.c1
  have Fc2_23 := F.c2
  have Fc3_23 := F.c3
  have Fc4_23 := F.c4
  have Fc5_23 := F.c5
  have b13 := below_alloc w12 (.cells #[.string F1, .string C] 9)
  have L : R2 (w12.alloc (.cells #[.string F1, .string C] 9)) w12.heap.size (.string F1) (.string C) := r2_new _ _ _ _
  replace X := X.later (b13.mono X.lt)
  replace D := D.later (b13.mono D.lt)
  replace Y := Y.later (b13.mono Y.lt)
  replace F := F.later (b13.mono F.lt)
  replace BB := BB.trans (b13.mono BB.size)
  clear b13
  have Xc0_24 := X.c0
  have Xc1_24 := X.c1
  have Xc2_24 := X.c2
  have Xc3_24 := X.c3
  have Xc4_24 := X.c4
  have Xc5_24 := X.c5
  have Fc0_25 := F.c0
  have Fc1_25 := F.c1
  have Fc2_25 := F.c2
  have Fc3_25 := F.c3
  have Fc4_25 := F.c4
  have Fc5_25 := F.c5
  have Lc0_26 := L.c0
  have Lc1_26 := L.c1
  have Xc0_27 := X.c0
  have Xc1_27 := X.c1
  have Xc2_27 := X.c2
  have Xc3_27 := X.c3
  have Xc4_27 := X.c4
  have Xc5_27 := X.c5
  go_wp2_with fail
  refine (hS1 _).mono ?_
  rintro e w14 ⟨rfl, b14⟩
  clear Xc0_27 Xc1_27 Xc2_27 Xc3_27 Xc4_27 Xc5_27
  clear Fc0_25 Fc1_25 Fc2_25 Fc3_25 Fc4_25 Fc5_25
  clear Lc0_26 Lc1_26
  clear Xc0_22 Xc1_22 Xc2_22 Xc3_22 Xc4_22 Xc5_22 Fc0_23 Fc1_23 Fc2_23 Fc3_23 Fc4_23 Fc5_23 Xc0_24 Xc1_24 Xc2_24 Xc3_24 Xc4_24 Xc5_24
  replace X := X.later (b14.mono X.lt)
  replace D := D.later (b14.mono D.lt)
  replace Y := Y.later (b14.mono Y.lt)
  replace F := F.later (b14.mono F.lt)
  replace L := L.later (b14.mono L.lt)
  replace BB := BB.trans (b14.mono BB.size)
  clear b14 
  have Xc0_28 := X.c0
  have Xc1_28 := X.c1
  have Xc2_28 := X.c2
  have Xc3_28 := X.c3
  have Xc4_28 := X.c4
  have Xc5_28 := X.c5
  have Fc0_29 := F.c0
  have Fc1_29 := F.c1
  have Fc2_29 := F.c2
  have Fc3_29 := F.c3
  have Fc4_29 := F.c4
  have Fc5_29 := F.c5
  have Lc0_30 := L.c0
  have Lc1_30 := L.c1
  have b15 := below_alloc w14 (.cells #[.string C, .string F1] 9)
  have M : R2 (w14.alloc (.cells #[.string C, .string F1] 9)) w14.heap.size (.string C) (.string F1) := r2_new _ _ _ _
  replace X := X.later (b15.mono X.lt)
  replace D := D.later (b15.mono D.lt)
  replace Y := Y.later (b15.mono Y.lt)
  replace F := F.later (b15.mono F.lt)
  replace L := L.later (b15.mono L.lt)
  replace BB := BB.trans (b15.mono BB.size)
  clear b15
  have Xc0_31 := X.c0
  have Xc1_31 := X.c1
  have Xc2_31 := X.c2
  have Xc3_31 := X.c3
  have Xc4_31 := X.c4
  have Xc5_31 := X.c5
  have Fc0_32 := F.c0
  have Fc1_32 := F.c1
  have Fc2_32 := F.c2
  have Fc3_32 := F.c3
  have Fc4_32 := F.c4
  have Fc5_32 := F.c5
  have Lc0_33 := L.c0
  have Lc1_33 := L.c1
  have Mc0_34 := M.c0
  have Mc1_34 := M.c1
  clear Xc0_31 Xc1_31 Xc2_31 Xc3_31 Xc4_31 Xc5_31
  clear Fc0_32 Fc1_32 Fc2_32 Fc3_32 Fc4_32 Fc5_32
  clear Lc0_33 Lc1_33
  clear Mc0_34 Mc1_34
  clear Xc0_28 Xc1_28 Xc2_28 Xc3_28 Xc4_28 Xc5_28 Fc0_29 Fc1_29 Fc2_29 Fc3_29 Fc4_29 Fc5_29 Lc0_30 Lc1_30
  go_wp2
  generalize hwb : (w14.alloc (.cells #[.string C, .string F1] 9)) = wb0 at *
  have TQ := T.later BB
  refine wp_region_specs_mid (n := 12) [.val (.slice (some ⟨w14.heap.size, 0, none⟩) 2 2), .val (.pointer (some ⟨w14.heap.size, 0, none⟩)), .val (.string C), .val (.slice (some ⟨w14.heap.size, 0, none⟩) 2 2), .val (.pointer (some ⟨w14.heap.size, 1, none⟩)), .val (.string F1), .val (.tuple #[.agg #[.int .u64 ((key : Nat) : Int), .int .i64 (ep), .int .i64 (ser + 1), .int .i64 (siz), .int .i64 (a), .int .i64 (b)], .int .i64 (1), .int .i64 0]), .val (.tuple #[.agg #[.int .u64 ((key : Nat) : Int), .int .i64 (ep), .int .i64 (ser + 1), .int .i64 (siz), .int .i64 (a), .int .i64 (b)], .int .i64 (1), .int .i64 0]), .val (.agg #[.int .u64 ((key : Nat) : Int), .int .i64 (ep), .int .i64 (ser + 1), .int .i64 (siz), .int .i64 (a), .int .i64 (b)]), .val (.int .i64 (1)), .val (.int .i64 0), .nbox wb0.heap.size, .val (undef), .val (.int .i64 (1)), .val (.int .i64 0)] [.val (.slice (some ⟨w14.heap.size, 0, none⟩) 2 2), .val (.pointer (some ⟨w14.heap.size, 0, none⟩)), .val (.string C), .val (.slice (some ⟨w14.heap.size, 0, none⟩) 2 2), .val (.pointer (some ⟨w14.heap.size, 1, none⟩)), .val (.string F1), .val (.tuple #[.agg #[.int .u64 ((key : Nat) : Int), .int .i64 (ep), .int .i64 (ser + 1), .int .i64 (siz), .int .i64 (a), .int .i64 (b)], .int .i64 (1), .int .i64 0]), .val (.tuple #[.agg #[.int .u64 ((key : Nat) : Int), .int .i64 (ep), .int .i64 (ser + 1), .int .i64 (siz), .int .i64 (a), .int .i64 (b)], .int .i64 (1), .int .i64 0]), .val (.agg #[.int .u64 ((key : Nat) : Int), .int .i64 (ep), .int .i64 (ser + 1), .int .i64 (siz), .int .i64 (a), .int .i64 (b)]), .val (.int .i64 (1)), .val (.int .i64 0), .sbox wb0.heap.size (key) (ep) (ser + 1) (siz) (a) (b), .val (undef), .val (.int .i64 (1)), .val (.int .i64 0)] (by kernel_rfl) (by kernel_rfl) rfl rfl rfl ?_ ?_ ?_ ?_
  · refine ⟨?_, ?_⟩
    · intro hp A w1 hb ho hd
      clear hp
      have e17 : A.tmps[17]?.getD undef = .slice (some ⟨w14.heap.size, 0, none⟩) 2 2 := olds_get ho 17 (by kernel_rfl)
      refine ⟨rfl, goes_value (v := .slice (some ⟨w14.heap.size, 0, none⟩) 2 2) ?_ rfl⟩
      simp [go_sem, e17]
    refine ⟨?_, ?_⟩
    · intro hp A w1 hb ho hd
      clear hp
      have e107 : A.tmps[107]?.getD undef = .slice (some ⟨w14.heap.size, 0, none⟩) 2 2 := getq (hd _ (Array.mem_of_getElem? (i := 0) rfl) rfl _ _ rfl rfl)
      refine ⟨rfl, goes_value (v := .pointer (some ⟨w14.heap.size, 0, none⟩)) ?_ rfl⟩
      simp [go_sem, e107]
    refine ⟨?_, ?_⟩
    · intro hp A w1 hb ho hd
      clear hp
      have e108 : A.tmps[108]?.getD undef = .pointer (some ⟨w14.heap.size, 0, none⟩) := getq (hd _ (Array.mem_of_getElem? (i := 0) rfl) rfl _ _ rfl rfl)
      have cz := (M.later (hb.mono M.lt)).c0
      refine ⟨rfl, goes_value (v := .string C) ?_ rfl⟩
      simp [go_sem, e108, cz]
    refine ⟨?_, ?_⟩
    · intro hp A w1 hb ho hd
      clear hp
      have e17 : A.tmps[17]?.getD undef = .slice (some ⟨w14.heap.size, 0, none⟩) 2 2 := olds_get ho 17 (by kernel_rfl)
      refine ⟨rfl, goes_value (v := .slice (some ⟨w14.heap.size, 0, none⟩) 2 2) ?_ rfl⟩
      simp [go_sem, e17]
    refine ⟨?_, ?_⟩
    · intro hp A w1 hb ho hd
      clear hp
      have e110 : A.tmps[110]?.getD undef = .slice (some ⟨w14.heap.size, 0, none⟩) 2 2 := getq (hd _ (Array.mem_of_getElem? (i := 0) rfl) rfl _ _ rfl rfl)
      refine ⟨rfl, goes_value (v := .pointer (some ⟨w14.heap.size, 1, none⟩)) ?_ rfl⟩
      simp [go_sem, e110]
    refine ⟨?_, ?_⟩
    · intro hp A w1 hb ho hd
      clear hp
      have e111 : A.tmps[111]?.getD undef = .pointer (some ⟨w14.heap.size, 1, none⟩) := getq (hd _ (Array.mem_of_getElem? (i := 0) rfl) rfl _ _ rfl rfl)
      have cz := (M.later (hb.mono M.lt)).c1
      refine ⟨rfl, goes_value (v := .string F1) ?_ rfl⟩
      simp [go_sem, e111, cz]
    refine ⟨?_, ?_⟩
    · intro hp A w1 hb ho hd
      clear hp
      have e109 : A.tmps[109]?.getD undef = .string C := getq (hd _ (Array.mem_of_getElem? (i := 0) rfl) rfl _ _ rfl rfl)
      have e112 : A.tmps[112]?.getD undef = .string F1 := getq (hd _ (Array.mem_of_getElem? (i := 1) rfl) rfl _ _ rfl rfl)
      refine ⟨rfl, goes_call (f := 18) (args := #[.string C, .string F1]) ?_ (hP w1 (TQ.later hb))⟩
      simp [go_sem, e109, e112]
    refine ⟨?_, ?_⟩
    · intro hp A w1 hb ho hd
      clear hp
      have e113 : A.tmps[113]?.getD undef = .tuple #[.agg #[.int .u64 ((key : Nat) : Int), .int .i64 (ep), .int .i64 (ser + 1), .int .i64 (siz), .int .i64 (a), .int .i64 (b)], .int .i64 (1), .int .i64 0] := getq (hd _ (Array.mem_of_getElem? (i := 0) rfl) rfl _ _ rfl rfl)
      refine ⟨rfl, goes_value (v := .tuple #[.agg #[.int .u64 ((key : Nat) : Int), .int .i64 (ep), .int .i64 (ser + 1), .int .i64 (siz), .int .i64 (a), .int .i64 (b)], .int .i64 (1), .int .i64 0]) ?_ rfl⟩
      simp [go_sem, e113]
    refine ⟨?_, ?_⟩
    · intro hp A w1 hb ho hd
      clear hp
      have e106 : A.tmps[106]?.getD undef = .tuple #[.agg #[.int .u64 ((key : Nat) : Int), .int .i64 (ep), .int .i64 (ser + 1), .int .i64 (siz), .int .i64 (a), .int .i64 (b)], .int .i64 (1), .int .i64 0] := getq (hd _ (Array.mem_of_getElem? (i := 0) rfl) rfl _ _ rfl rfl)
      refine ⟨rfl, goes_value (v := .agg #[.int .u64 ((key : Nat) : Int), .int .i64 (ep), .int .i64 (ser + 1), .int .i64 (siz), .int .i64 (a), .int .i64 (b)]) ?_ rfl⟩
      simp [go_sem, e106]
    refine ⟨?_, ?_⟩
    · intro hp A w1 hb ho hd
      clear hp
      have e106 : A.tmps[106]?.getD undef = .tuple #[.agg #[.int .u64 ((key : Nat) : Int), .int .i64 (ep), .int .i64 (ser + 1), .int .i64 (siz), .int .i64 (a), .int .i64 (b)], .int .i64 (1), .int .i64 0] := getq (hd _ (Array.mem_of_getElem? (i := 0) rfl) rfl _ _ rfl rfl)
      refine ⟨rfl, goes_value (v := .int .i64 (1)) ?_ rfl⟩
      simp [go_sem, e106]
    refine ⟨?_, ?_⟩
    · intro hp A w1 hb ho hd
      clear hp
      have e106 : A.tmps[106]?.getD undef = .tuple #[.agg #[.int .u64 ((key : Nat) : Int), .int .i64 (ep), .int .i64 (ser + 1), .int .i64 (siz), .int .i64 (a), .int .i64 (b)], .int .i64 (1), .int .i64 0] := getq (hd _ (Array.mem_of_getElem? (i := 0) rfl) rfl _ _ rfl rfl)
      refine ⟨rfl, goes_value (v := .int .i64 0) ?_ rfl⟩
      simp [go_sem, e106]
    refine ⟨?_, ?_⟩
    · intro hp A w1 hb ho hd
      clear hp
      refine ⟨rfl, goes_alloc (v := .pointer (some ⟨w1.heap.size, 0, none⟩)) (o := .cells #[.int .u64 ((0 : Nat) : Int), .int .i64 0, .int .i64 0, .int .i64 0, .int .i64 0, .int .i64 0] 24) ?_ ⟨_, rfl, hb.size, boxC _ 0 0 0 0 0 0 24⟩⟩
      simp [go_sem]
    refine ⟨?_, ?_⟩
    · exact fun hp => absurd hp (by decide)
    refine ⟨?_, ?_⟩
    · intro hp A w1 hb ho hd
      clear hp
      have e115 : A.tmps[115]?.getD undef = .int .i64 (1) := getq (hd _ (Array.mem_of_getElem? (i := 0) rfl) rfl _ _ rfl rfl)
      refine ⟨rfl, goes_value (v := .int .i64 (1)) ?_ rfl⟩
      simp [go_sem, e115]
    refine ⟨?_, ?_⟩
    · intro hp A w1 hb ho hd
      clear hp
      have e116 : A.tmps[116]?.getD undef = .int .i64 0 := getq (hd _ (Array.mem_of_getElem? (i := 0) rfl) rfl _ _ rfl rfl)
      refine ⟨rfl, goes_value (v := .int .i64 0) ?_ rfl⟩
      simp [go_sem, e116]
    trivial
  · refine ⟨?_, ?_⟩
    · exact not_needed (by kernel_rfl)
    refine ⟨?_, ?_⟩
    · exact not_needed (by kernel_rfl)
    refine ⟨?_, ?_⟩
    · exact not_needed (by kernel_rfl)
    refine ⟨?_, ?_⟩
    · exact not_needed (by kernel_rfl)
    refine ⟨?_, ?_⟩
    · exact not_needed (by kernel_rfl)
    refine ⟨?_, ?_⟩
    · exact not_needed (by kernel_rfl)
    refine ⟨?_, ?_⟩
    · exact not_needed (by kernel_rfl)
    refine ⟨?_, ?_⟩
    · exact not_needed (by kernel_rfl)
    refine ⟨?_, ?_⟩
    · exact not_needed (by kernel_rfl)
    refine ⟨?_, ?_⟩
    · intro hp A w1 hb ho hd
      clear hp
      have e106 : A.tmps[106]?.getD undef = .tuple #[.agg #[.int .u64 ((key : Nat) : Int), .int .i64 (ep), .int .i64 (ser + 1), .int .i64 (siz), .int .i64 (a), .int .i64 (b)], .int .i64 (1), .int .i64 0] := getq (hd _ (Array.mem_of_getElem? (i := 0) rfl) rfl _ _ rfl rfl)
      refine ⟨rfl, goes_value (v := .int .i64 (1)) ?_ rfl⟩
      simp [go_sem, e106]
    refine ⟨?_, ?_⟩
    · intro hp A w1 hb ho hd
      clear hp
      have e106 : A.tmps[106]?.getD undef = .tuple #[.agg #[.int .u64 ((key : Nat) : Int), .int .i64 (ep), .int .i64 (ser + 1), .int .i64 (siz), .int .i64 (a), .int .i64 (b)], .int .i64 (1), .int .i64 0] := getq (hd _ (Array.mem_of_getElem? (i := 0) rfl) rfl _ _ rfl rfl)
      refine ⟨rfl, goes_value (v := .int .i64 0) ?_ rfl⟩
      simp [go_sem, e106]
    refine ⟨?_, ?_⟩
    · exact not_needed (by kernel_rfl)
    refine ⟨?_, ?_⟩
    · exact not_needed (by kernel_rfl)
    refine ⟨?_, ?_⟩
    · intro hp A w1 hb ho hd
      clear hp
      have e115 : A.tmps[115]?.getD undef = .int .i64 (1) := getq (hd _ (Array.mem_of_getElem? (i := 0) rfl) rfl _ _ rfl rfl)
      refine ⟨rfl, goes_value (v := .int .i64 (1)) ?_ rfl⟩
      simp [go_sem, e115]
    refine ⟨?_, ?_⟩
    · intro hp A w1 hb ho hd
      clear hp
      have e116 : A.tmps[116]?.getD undef = .int .i64 0 := getq (hd _ (Array.mem_of_getElem? (i := 0) rfl) rfl _ _ rfl rfl)
      refine ⟨rfl, goes_value (v := .int .i64 0) ?_ rfl⟩
      simp [go_sem, e116]
    trivial
  · intro A w2 hb ho hd
    obtain ⟨g, hg, hge, Zb⟩ := hd _ (Array.mem_of_getElem? (i := 0) rfl) rfl _ _ rfl rfl
    have e18 := getq hg
    have eV : A.tmps[114]?.getD undef = .agg #[.int .u64 ((key : Nat) : Int), .int .i64 (ep), .int .i64 (ser + 1), .int .i64 (siz), .int .i64 (a), .int .i64 (b)] := getq (hd _ (Array.mem_of_getElem? (i := 1) rfl) rfl _ _ rfl rfl)
    have zc0 := Zb.c0
    have zc1 := Zb.c1
    have zc2 := Zb.c2
    have zc3 := Zb.c3
    have zc4 := Zb.c4
    have zc5 := Zb.c5
    have zf0 := Zb.fr 0 (by omega)
    have zf1 := Zb.fr 1 (by omega)
    have zf2 := Zb.fr 2 (by omega)
    have zf3 := Zb.fr 3 (by omega)
    have zf4 := Zb.fr 4 (by omega)
    have zf5 := Zb.fr 5 (by omega)
    refine ⟨_, by simp [go_sem, e18, eV, zc0, zc1, zc2, zc3, zc4, zc5, zf0, zf1, zf2, zf3, zf4, zf5]; rfl, ?_, ?_⟩
    · exact BoxC.below Zb hb hge (key) (ep) (ser + 1) (siz) (a) (b)
    · intro j o d hj hdst h
      match j, hj, hdst, h with
      | 0, _, _, h => exact h
      | 1, _, _, h => exact h
      | 2, _, _, h => exact h
      | 3, _, _, h => exact h
      | 4, _, _, h => exact h
      | 5, _, _, h => exact h
      | 6, _, _, h => exact h
      | 7, _, _, h => exact h
      | 8, _, _, h => exact h
      | 9, _, _, h => exact h
      | 10, _, _, h => exact h
      | 11, hj, hdst, _ =>
        cases hj
        cases hdst
        exact ⟨g, hg, hge, Zb.put (key) (ep) (ser + 1) (siz) (a) (b)⟩
      | 12, _, _, h => exact h
      | 13, _, _, h => exact h
      | 14, _, _, h => exact h
      | j + 15, hj, _, _ => simp at hj
  intro A w9 hb9 hdf hsz hol hft
  obtain ⟨gx, hgx, hgxe, XN⟩ := hft 11 _ 18 rfl rfl
  have m107 : A.tmps.getD 107 undef = .slice (some ⟨w14.heap.size, 0, none⟩) 2 2 := hft 0 _ 107 rfl rfl
  have m108 : A.tmps.getD 108 undef = .pointer (some ⟨w14.heap.size, 0, none⟩) := hft 1 _ 108 rfl rfl
  have m109 : A.tmps.getD 109 undef = .string C := hft 2 _ 109 rfl rfl
  have m110 : A.tmps.getD 110 undef = .slice (some ⟨w14.heap.size, 0, none⟩) 2 2 := hft 3 _ 110 rfl rfl
  have m111 : A.tmps.getD 111 undef = .pointer (some ⟨w14.heap.size, 1, none⟩) := hft 4 _ 111 rfl rfl
  have m112 : A.tmps.getD 112 undef = .string F1 := hft 5 _ 112 rfl rfl
  have m113 : A.tmps.getD 113 undef = .tuple #[.agg #[.int .u64 ((key : Nat) : Int), .int .i64 (ep), .int .i64 (ser + 1), .int .i64 (siz), .int .i64 (a), .int .i64 (b)], .int .i64 (1), .int .i64 0] := hft 6 _ 113 rfl rfl
  have m106 : A.tmps.getD 106 undef = .tuple #[.agg #[.int .u64 ((key : Nat) : Int), .int .i64 (ep), .int .i64 (ser + 1), .int .i64 (siz), .int .i64 (a), .int .i64 (b)], .int .i64 (1), .int .i64 0] := hft 7 _ 106 rfl rfl
  have m114 : A.tmps.getD 114 undef = .agg #[.int .u64 ((key : Nat) : Int), .int .i64 (ep), .int .i64 (ser + 1), .int .i64 (siz), .int .i64 (a), .int .i64 (b)] := hft 8 _ 114 rfl rfl
  have m115 : A.tmps.getD 115 undef = .int .i64 (1) := hft 9 _ 115 rfl rfl
  have m116 : A.tmps.getD 116 undef = .int .i64 0 := hft 10 _ 116 rfl rfl
  have m19 : A.tmps.getD 19 undef = .int .i64 (1) := hft 13 _ 19 rfl rfl
  have m20 : A.tmps.getD 20 undef = .int .i64 0 := hft 14 _ 20 rfl rfl
  rename_i KK hKK
  refine hKK _ _ ?_
  show Code.wp _ _ _ A w9
  rw [frame_puts hdf hsz hol]
  simp only [List.foldl_cons, List.foldl_nil, Act.put, Option.getD_some, m107, m108, m109, m110, m111, m112, m113, m106, m114, m115, m116, m19, m20, hgx, List.setIfInBounds_toArray, List.set_cons_succ, List.set_cons_zero]
  clear m107 m108 m109 m110 m111 m112 m113 m106 m114 m115 m116 m19 m20 hft hol hsz hdf hKK hgx
  replace X := X.later (hb9.mono X.lt)
  replace D := D.later (hb9.mono D.lt)
  replace Y := Y.later (hb9.mono Y.lt)
  replace F := F.later (hb9.mono F.lt)
  replace L := L.later (hb9.mono L.lt)
  replace M := M.later (hb9.mono M.lt)
  replace BB := BB.trans (hb9.mono BB.size)
  have XNc0_35 := XN.c0
  have XNc1_35 := XN.c1
  have XNc2_35 := XN.c2
  have XNc3_35 := XN.c3
  have XNc4_35 := XN.c4
  have XNc5_35 := XN.c5
  have Xc0_36 := X.c0
  have Xc1_36 := X.c1
  have Xc2_36 := X.c2
  have Xc3_36 := X.c3
  have Xc4_36 := X.c4
  have Xc5_36 := X.c5
  have Yc0_37 := Y.c0
  have Yc1_37 := Y.c1
  have Yc2_37 := Y.c2
  have Yc3_37 := Y.c3
  have Yc4_37 := Y.c4
  have Yc5_37 := Y.c5
  go_wp2_with fail
  refine (hSx _).mono ?_
  rintro e w16 ⟨rfl, b16⟩
  clear XNc0_35 XNc1_35 XNc2_35 XNc3_35 XNc4_35 XNc5_35
  clear Xc0_36 Xc1_36 Xc2_36 Xc3_36 Xc4_36 Xc5_36
  clear Yc0_37 Yc1_37 Yc2_37 Yc3_37 Yc4_37 Yc5_37
  replace X := X.later (b16.mono X.lt)
  replace D := D.later (b16.mono D.lt)
  replace Y := Y.later (b16.mono Y.lt)
  replace F := F.later (b16.mono F.lt)
  replace L := L.later (b16.mono L.lt)
  replace M := M.later (b16.mono M.lt)
  replace XN := XN.later (b16.mono XN.lt)
  replace BB := BB.trans (b16.mono BB.size)
  clear b16 
  have XNc0_38 := XN.c0
  have XNc1_38 := XN.c1
  have XNc2_38 := XN.c2
  have XNc3_38 := XN.c3
  have XNc4_38 := XN.c4
  have XNc5_38 := XN.c5
  have Xc0_39 := X.c0
  have Xc1_39 := X.c1
  have Xc2_39 := X.c2
  have Xc3_39 := X.c3
  have Xc4_39 := X.c4
  have Xc5_39 := X.c5
  have Yc0_40 := Y.c0
  have Yc1_40 := Y.c1
  have Yc2_40 := Y.c2
  have Yc3_40 := Y.c3
  have Yc4_40 := Y.c4
  have Yc5_40 := Y.c5
  go_wp2_with fail
  refine (awake_any _ (T.later BB)).mono ?_
  rintro e w17 ⟨rfl, b17⟩
  clear XNc0_38 XNc1_38 XNc2_38 XNc3_38 XNc4_38 XNc5_38
  clear Xc0_39 Xc1_39 Xc2_39 Xc3_39 Xc4_39 Xc5_39
  clear Yc0_40 Yc1_40 Yc2_40 Yc3_40 Yc4_40 Yc5_40
  replace X := X.later (b17.mono X.lt)
  replace D := D.later (b17.mono D.lt)
  replace Y := Y.later (b17.mono Y.lt)
  replace F := F.later (b17.mono F.lt)
  replace L := L.later (b17.mono L.lt)
  replace M := M.later (b17.mono M.lt)
  replace XN := XN.later (b17.mono XN.lt)
  replace BB := BB.trans (b17.mono BB.size)
  clear b17 
  have XNc0_41 := XN.c0
  have XNc1_41 := XN.c1
  have XNc2_41 := XN.c2
  have XNc3_41 := XN.c3
  have XNc4_41 := XN.c4
  have XNc5_41 := XN.c5
  have Xc0_42 := X.c0
  have Xc1_42 := X.c1
  have Xc2_42 := X.c2
  have Xc3_42 := X.c3
  have Xc4_42 := X.c4
  have Xc5_42 := X.c5
  have Yc0_43 := Y.c0
  have Yc1_43 := Y.c1
  have Yc2_43 := Y.c2
  have Yc3_43 := Y.c3
  have Yc4_43 := Y.c4
  have Yc5_43 := Y.c5
  go_wp2
  go_ret
  exact ⟨rfl, BB⟩

set_option maxRecDepth 100000 in
set_option maxHeartbeats 16000000 in
theorem torn_p11 (key : Nat) (ep ser siz tail num a b : Int) (l1 : ser < 1099511627776) (l0 : 0 < ser) (C F1 Z : ByteArray) (G : ByteArray) (zF : F1.size = 64) (_zC : C.size = 64) (_zZ : Z.size = 64) (zG : G.size = 64)
    (hPl : ∀ w, Calls Tryd.prog 10 #[.agg #[.int .u64 ((key : Nat) : Int), .int .i64 (ep), .int .i64 (ser), .int .i64 (siz), .int .i64 (tail), .int .i64 (num)]] w fun e w' => e = .returned (.agg #[.int .u64 ((key : Nat) : Int), .int .i64 (ep), .int .i64 (ser), .int .i64 (siz), .int .i64 (tail), .int .i64 (num)]) ∧ Below w.heap.size w w')
    (hRc : ∀ w, Calls Tryd.prog 9 #[.agg #[.int .u64 ((key : Nat) : Int), .int .i64 (ep), .int .i64 (ser), .int .i64 (siz), .int .i64 (tail), .int .i64 (num)]] w fun e w' => e = .returned (.int .i64 0) ∧ Below w.heap.size w w')
    (hN : ∀ w, Calls Tryd.prog 20 #[.agg #[.int .u64 ((key : Nat) : Int), .int .i64 (ep), .int .i64 (ser), .int .i64 (siz), .int .i64 (tail), .int .i64 (num)], .int .i64 a, .int .i64 b] w fun e w' => e = .returned (.tuple #[.agg #[.int .u64 ((key : Nat) : Int), .int .i64 (ep), .int .i64 (ser + 1), .int .i64 (siz), .int .i64 (a), .int .i64 (b)], .int .i64 0]) ∧ Below w.heap.size w w')
    (hE1 : ∀ w, Tab w → Calls Tryd.prog 11 #[.agg #[.int .u64 ((key : Nat) : Int), .int .i64 (ep), .int .i64 (ser), .int .i64 (siz), .int .i64 (tail), .int .i64 (num)]] w fun e w' => e = .returned (.tuple #[.string C, .int .i64 0]) ∧ Below w.heap.size w w')
    (hE2 : ∀ w, Tab w → Calls Tryd.prog 11 #[.agg #[.int .u64 ((key : Nat) : Int), .int .i64 (ep), .int .i64 (ser + 1), .int .i64 (siz), .int .i64 (a), .int .i64 (b)]] w fun e w' => e = .returned (.tuple #[.string F1, .int .i64 0]) ∧ Below w.heap.size w w')
    (hS1 : ∀ w, Calls Tryd.prog 15 #[.agg #[.int .u64 ((key : Nat) : Int), .int .i64 (ep), .int .i64 (ser), .int .i64 (siz), .int .i64 (tail), .int .i64 (num)]] w fun e w' => e = .returned (.int .i64 1) ∧ Below w.heap.size w w')
    (hS2 : ∀ w, Calls Tryd.prog 15 #[.agg #[.int .u64 ((key : Nat) : Int), .int .i64 (ep), .int .i64 (ser + 1), .int .i64 (siz), .int .i64 (a), .int .i64 (b)]] w fun e w' => e = .returned (.int .i64 0) ∧ Below w.heap.size w w')
    (hP : ∀ w, Tab w → Calls Tryd.prog 18 #[.string F1, .string C] w fun e w' => e = .returned (.tuple #[.agg #[.int .u64 ((key : Nat) : Int), .int .i64 (ep), .int .i64 (ser + 1), .int .i64 (siz), .int .i64 (a), .int .i64 (b)], .int .i64 (0), .int .i64 0]) ∧ Below w.heap.size w w')
    (hSx : ∀ w, Calls Tryd.prog 15 #[.agg #[.int .u64 ((key : Nat) : Int), .int .i64 (ep), .int .i64 (ser + 1), .int .i64 (siz), .int .i64 (a), .int .i64 (b)]] w fun e w' => e = .returned (.int .i64 (0)) ∧ Below w.heap.size w w')
    (hZ : Hid (str (List.replicate 64 0) = Z))
    (hE3 : ∀ w, Tab w → Calls Tryd.prog 11 #[.agg #[.int .u64 ((key : Nat) : Int), .int .i64 (ep), .int .i64 (ser - 1), .int .i64 (siz), .int .i64 (tail), .int .i64 (num)]] w fun e w' => e = .returned (.tuple #[.string G, .int .i64 0]) ∧ Below w.heap.size w w')
    (W : World) (T : Tab W) : Calls Tryd.prog 7 #[.agg #[.int .u64 ((key : Nat) : Int), .int .i64 (ep), .int .i64 (ser), .int .i64 (siz), .int .i64 (tail), .int .i64 (num)], .agg #[.int .i64 a, .int .i64 b], .int .i64 1] W fun e w' => e = .returned (.bool true) ∧ Below W.heap.size W w' := by
  have BB := Below.refl W.heap.size W
  have b1 := below_alloc W (.cells #[.int .u64 ((key : Nat) : Int), .int .i64 (ep), .int .i64 (ser), .int .i64 (siz), .int .i64 (tail), .int .i64 (num)] 24)
  have X : BoxC (W.alloc (.cells #[.int .u64 ((key : Nat) : Int), .int .i64 (ep), .int .i64 (ser), .int .i64 (siz), .int .i64 (tail), .int .i64 (num)] 24)) W.heap.size (key) (ep) (ser) (siz) (tail) (num) := boxC W (key) (ep) (ser) (siz) (tail) (num) 24
  replace BB := BB.trans (b1.mono BB.size)
  clear b1
  have Xc0_1 := X.c0
  have Xc1_1 := X.c1
  have Xc2_1 := X.c2
  have Xc3_1 := X.c3
  have Xc4_1 := X.c4
  have Xc5_1 := X.c5
  have b2 := below_alloc (W.alloc (.cells #[.int .u64 ((key : Nat) : Int), .int .i64 (ep), .int .i64 (ser), .int .i64 (siz), .int .i64 (tail), .int .i64 (num)] 24)) (.cells #[.int .i64 a, .int .i64 b] 49)
  have D : R2 ((W.alloc (.cells #[.int .u64 ((key : Nat) : Int), .int .i64 (ep), .int .i64 (ser), .int .i64 (siz), .int .i64 (tail), .int .i64 (num)] 24)).alloc (.cells #[.int .i64 a, .int .i64 b] 49)) (W.alloc (.cells #[.int .u64 ((key : Nat) : Int), .int .i64 (ep), .int .i64 (ser), .int .i64 (siz), .int .i64 (tail), .int .i64 (num)] 24)).heap.size (.int .i64 a) (.int .i64 b) := r2_new _ _ _ _
  simp only [World.size_alloc] at D
  replace X := X.later (b2.mono X.lt)
  replace BB := BB.trans (b2.mono BB.size)
  clear b2
  have Xc0_2 := X.c0
  have Xc1_2 := X.c1
  have Xc2_2 := X.c2
  have Xc3_2 := X.c3
  have Xc4_2 := X.c4
  have Xc5_2 := X.c5
  have Dc0_3 := D.c0
  have Dc1_3 := D.c1
  go_enter Tryd.func7, Tryd.ntmps7
  go_wp2_with fail
  refine (hPl _).mono ?_
  rintro e w3 ⟨rfl, b3⟩
  clear Xc0_2 Xc1_2 Xc2_2 Xc3_2 Xc4_2 Xc5_2
  clear Dc0_3 Dc1_3
  clear Xc0_1 Xc1_1 Xc2_1 Xc3_1 Xc4_1 Xc5_1
  replace X := X.later (b3.mono X.lt)
  replace D := D.later (b3.mono D.lt)
  replace BB := BB.trans (b3.mono BB.size)
  clear b3 
  have Xc0_4 := X.c0
  have Xc1_4 := X.c1
  have Xc2_4 := X.c2
  have Xc3_4 := X.c3
  have Xc4_4 := X.c4
  have Xc5_4 := X.c5
  have Dc0_5 := D.c0
  have Dc1_5 := D.c1
  go_wp2_with fail
  refine (hRc _).mono ?_
  rintro e w4 ⟨rfl, b4⟩
  clear Xc0_4 Xc1_4 Xc2_4 Xc3_4 Xc4_4 Xc5_4
  clear Dc0_5 Dc1_5
  replace X := X.later (b4.mono X.lt)
  replace D := D.later (b4.mono D.lt)
  replace BB := BB.trans (b4.mono BB.size)
  clear b4 
  have Xc0_6 := X.c0
  have Xc1_6 := X.c1
  have Xc2_6 := X.c2
  have Xc3_6 := X.c3
  have Xc4_6 := X.c4
  have Xc5_6 := X.c5
  have Dc0_7 := D.c0
  have Dc1_7 := D.c1
  go_wp2_with fail
  refine (hN _).mono ?_
  rintro e w5 ⟨rfl, b5⟩
  clear Xc0_6 Xc1_6 Xc2_6 Xc3_6 Xc4_6 Xc5_6
  clear Dc0_7 Dc1_7
  replace X := X.later (b5.mono X.lt)
  replace D := D.later (b5.mono D.lt)
  replace BB := BB.trans (b5.mono BB.size)
  clear b5 
  have Xc0_8 := X.c0
  have Xc1_8 := X.c1
  have Xc2_8 := X.c2
  have Xc3_8 := X.c3
  have Xc4_8 := X.c4
  have Xc5_8 := X.c5
  have Dc0_9 := D.c0
  have Dc1_9 := D.c1
  have b6 := below_alloc w5 (.cells #[.int .u64 ((key : Nat) : Int), .int .i64 (ep), .int .i64 (ser + 1), .int .i64 (siz), .int .i64 (a), .int .i64 (b)] 24)
  have Y : BoxC (w5.alloc (.cells #[.int .u64 ((key : Nat) : Int), .int .i64 (ep), .int .i64 (ser + 1), .int .i64 (siz), .int .i64 (a), .int .i64 (b)] 24)) w5.heap.size (key) (ep) (ser + 1) (siz) (a) (b) := boxC w5 (key) (ep) (ser + 1) (siz) (a) (b) 24
  replace X := X.later (b6.mono X.lt)
  replace D := D.later (b6.mono D.lt)
  replace BB := BB.trans (b6.mono BB.size)
  clear b6
  have Xc0_10 := X.c0
  have Xc1_10 := X.c1
  have Xc2_10 := X.c2
  have Xc3_10 := X.c3
  have Xc4_10 := X.c4
  have Xc5_10 := X.c5
  have Dc0_11 := D.c0
  have Dc1_11 := D.c1
  have Yc0_12 := Y.c0
  have Yc1_12 := Y.c1
  have Yc2_12 := Y.c2
  have Yc3_12 := Y.c3
  have Yc4_12 := Y.c4
  have Yc5_12 := Y.c5
  go_wp2_with fail
  refine (hE1 _ (T.later BB)).mono ?_
  rintro e w7 ⟨rfl, b7⟩
  clear Xc0_10 Xc1_10 Xc2_10 Xc3_10 Xc4_10 Xc5_10
  clear Dc0_11 Dc1_11
  clear Yc0_12 Yc1_12 Yc2_12 Yc3_12 Yc4_12 Yc5_12
  clear Xc0_8 Xc1_8 Xc2_8 Xc3_8 Xc4_8 Xc5_8 Dc0_9 Dc1_9
  replace X := X.later (b7.mono X.lt)
  replace D := D.later (b7.mono D.lt)
  replace Y := Y.later (b7.mono Y.lt)
  replace BB := BB.trans (b7.mono BB.size)
  clear b7 
  have Xc0_13 := X.c0
  have Xc1_13 := X.c1
  have Xc2_13 := X.c2
  have Xc3_13 := X.c3
  have Xc4_13 := X.c4
  have Xc5_13 := X.c5
  have Dc0_14 := D.c0
  have Dc1_14 := D.c1
  have Yc0_15 := Y.c0
  have Yc1_15 := Y.c1
  have Yc2_15 := Y.c2
  have Yc3_15 := Y.c3
  have Yc4_15 := Y.c4
  have Yc5_15 := Y.c5
  go_wp2_with fail
  refine (hE2 _ (T.later BB)).mono ?_
  rintro e w8 ⟨rfl, b8⟩
  clear Xc0_13 Xc1_13 Xc2_13 Xc3_13 Xc4_13 Xc5_13
  clear Dc0_14 Dc1_14
  clear Yc0_15 Yc1_15 Yc2_15 Yc3_15 Yc4_15 Yc5_15
  replace X := X.later (b8.mono X.lt)
  replace D := D.later (b8.mono D.lt)
  replace Y := Y.later (b8.mono Y.lt)
  replace BB := BB.trans (b8.mono BB.size)
  clear b8 
  have Xc0_16 := X.c0
  have Xc1_16 := X.c1
  have Xc2_16 := X.c2
  have Xc3_16 := X.c3
  have Xc4_16 := X.c4
  have Xc5_16 := X.c5
  have Dc0_17 := D.c0
  have Dc1_17 := D.c1
  have Yc0_18 := Y.c0
  have Yc1_18 := Y.c1
  have Yc2_18 := Y.c2
  have Yc3_18 := Y.c3
  have Yc4_18 := Y.c4
  have Yc5_18 := Y.c5
  clear Xc0_16 Xc1_16 Xc2_16 Xc3_16 Xc4_16 Xc5_16
  clear Dc0_17 Dc1_17
  clear Yc0_18 Yc1_18 Yc2_18 Yc3_18 Yc4_18 Yc5_18
  have hne9 := later_ne w8
  have qX0 : ∀ p : Later w8, p.val.cell? ⟨W.heap.size, 0, none⟩ = some (.int .u64 ((key : Nat) : Int)) := fun p => (X.later (p.below.mono X.lt)).c0
  have qX1 : ∀ p : Later w8, p.val.cell? ⟨W.heap.size, 1, none⟩ = some (.int .i64 (ep)) := fun p => (X.later (p.below.mono X.lt)).c1
  have qX2 : ∀ p : Later w8, p.val.cell? ⟨W.heap.size, 2, none⟩ = some (.int .i64 (ser)) := fun p => (X.later (p.below.mono X.lt)).c2
  have qX3 : ∀ p : Later w8, p.val.cell? ⟨W.heap.size, 3, none⟩ = some (.int .i64 (siz)) := fun p => (X.later (p.below.mono X.lt)).c3
  have qX4 : ∀ p : Later w8, p.val.cell? ⟨W.heap.size, 4, none⟩ = some (.int .i64 (tail)) := fun p => (X.later (p.below.mono X.lt)).c4
  have qX5 : ∀ p : Later w8, p.val.cell? ⟨W.heap.size, 5, none⟩ = some (.int .i64 (num)) := fun p => (X.later (p.below.mono X.lt)).c5
  have qY0 : ∀ p : Later w8, p.val.cell? ⟨w5.heap.size, 0, none⟩ = some (.int .u64 ((key : Nat) : Int)) := fun p => (Y.later (p.below.mono Y.lt)).c0
  have qY1 : ∀ p : Later w8, p.val.cell? ⟨w5.heap.size, 1, none⟩ = some (.int .i64 (ep)) := fun p => (Y.later (p.below.mono Y.lt)).c1
  have qY2 : ∀ p : Later w8, p.val.cell? ⟨w5.heap.size, 2, none⟩ = some (.int .i64 (ser + 1)) := fun p => (Y.later (p.below.mono Y.lt)).c2
  have qY3 : ∀ p : Later w8, p.val.cell? ⟨w5.heap.size, 3, none⟩ = some (.int .i64 (siz)) := fun p => (Y.later (p.below.mono Y.lt)).c3
  have qY4 : ∀ p : Later w8, p.val.cell? ⟨w5.heap.size, 4, none⟩ = some (.int .i64 (a)) := fun p => (Y.later (p.below.mono Y.lt)).c4
  have qY5 : ∀ p : Later w8, p.val.cell? ⟨w5.heap.size, 5, none⟩ = some (.int .i64 (b)) := fun p => (Y.later (p.below.mono Y.lt)).c5
  go_wp2
  refine wp_region_later (by kernel_rfl) (by kernel_rfl) ?_
  (repeat (first | go_big_quiet_skip | (go_big_quiet_want; go_big_quiet_op; go_big_quiet_on)))
  (go_big_quiet_want; go_big_quiet_op; apply Exists.intro; refine ⟨fun p => ?_, ?_⟩; (· exact later_of (hS1 _)); go_big_quiet_on)
  (repeat (first | go_big_quiet_skip | (go_big_quiet_want; go_big_quiet_op; go_big_quiet_on)))
  (go_big_quiet_want; go_big_quiet_op; apply Exists.intro; refine ⟨fun p => ?_, ?_⟩; (· exact later_of (hS2 _)); go_big_quiet_on)
  (repeat (first | go_big_quiet_skip | (go_big_quiet_want; go_big_quiet_op; go_big_quiet_on)))
  refine wpQuiet_nil ?_
  rintro _ ⟨p9, rfl⟩
  replace X := X.later (p9.below.mono X.lt)
  replace D := D.later (p9.below.mono D.lt)
  replace Y := Y.later (p9.below.mono Y.lt)
  replace BB := BB.trans (p9.below.mono BB.size)
  clear hne9 qX0 qX1 qX2 qX3 qX4 qX5 qY0 qY1 qY2 qY3 qY4 qY5
  have hmk : (Instr.makeSlice 47 (.int .i64 64) (.int .i64 64)).run Tryd.prog p9.val = .ok (.slice (some ⟨p9.val.heap.size, 0, none⟩) 64 64) (p9.val.alloc (.cells (zs 64) 5)) := make_bytes (N := 64) (by omega) _
  have hcv : (convert 47 9 (.slice (some ⟨p9.val.heap.size, 0, none⟩) 64 64)).run Tryd.prog (p9.val.alloc (.cells (zs 64) 5)) = .ok (.string Z) (p9.val.alloc (.cells (zs 64) 5)) := by rw [← hZ.out]; exact conv_rep (fun i hi => by simp [zs_get hi])
  generalize hzz : zs 64 = ZZ at *
  have b10 := below_alloc p9.val (.cells ZZ 5)
  replace X := X.later (b10.mono X.lt)
  replace D := D.later (b10.mono D.lt)
  replace Y := Y.later (b10.mono Y.lt)
  replace BB := BB.trans (b10.mono BB.size)
  clear b10
  have Xc0_19 := X.c0
  have Xc1_19 := X.c1
  have Xc2_19 := X.c2
  have Xc3_19 := X.c3
  have Xc4_19 := X.c4
  have Xc5_19 := X.c5
  have XI := X.later ((below_alloc (p9.val.alloc (.cells ZZ 5)) (.cells #[.int .u64 ((key : Nat) : Int), .int .i64 (ep), .int .i64 (ser), .int .i64 (siz), .int .i64 (tail), .int .i64 (num)] 24)).mono X.lt)
  have XIc := XI.c2
  clear XI
  have b11 := below_alloc (p9.val.alloc (.cells ZZ 5)) (.cells #[.int .u64 ((key : Nat) : Int), .int .i64 (ep), .int .i64 (ser - 1), .int .i64 (siz), .int .i64 (tail), .int .i64 (num)] 24)
  have F : BoxC ((p9.val.alloc (.cells ZZ 5)).alloc (.cells #[.int .u64 ((key : Nat) : Int), .int .i64 (ep), .int .i64 (ser - 1), .int .i64 (siz), .int .i64 (tail), .int .i64 (num)] 24)) (p9.val.alloc (.cells ZZ 5)).heap.size (key) (ep) (ser - 1) (siz) (tail) (num) := boxC (p9.val.alloc (.cells ZZ 5)) (key) (ep) (ser - 1) (siz) (tail) (num) 24
  simp only [World.size_alloc] at F
  replace X := X.later (b11.mono X.lt)
  replace D := D.later (b11.mono D.lt)
  replace Y := Y.later (b11.mono Y.lt)
  replace BB := BB.trans (b11.mono BB.size)
  clear b11
  have Xc0_20 := X.c0
  have Xc1_20 := X.c1
  have Xc2_20 := X.c2
  have Xc3_20 := X.c3
  have Xc4_20 := X.c4
  have Xc5_20 := X.c5
  have Fc0_21 := F.c0
  have Fc1_21 := F.c1
  have Fc2_21 := F.c2
  have Fc3_21 := F.c3
  have Fc4_21 := F.c4
  have Fc5_21 := F.c5
  go_wp2_with fail
  refine (hE3 _ (T.later BB)).mono ?_
  rintro e w12 ⟨rfl, b12⟩
  clear Xc0_20 Xc1_20 Xc2_20 Xc3_20 Xc4_20 Xc5_20
  clear Fc0_21 Fc1_21 Fc2_21 Fc3_21 Fc4_21 Fc5_21
  clear XIc Xc0_19 Xc1_19 Xc2_19 Xc3_19 Xc4_19 Xc5_19
  replace X := X.later (b12.mono X.lt)
  replace D := D.later (b12.mono D.lt)
  replace Y := Y.later (b12.mono Y.lt)
  replace F := F.later (b12.mono F.lt)
  replace BB := BB.trans (b12.mono BB.size)
  clear b12 hmk hcv
  have Xc0_22 := X.c0
  have Xc1_22 := X.c1
  have Xc2_22 := X.c2
  have Xc3_22 := X.c3
  have Xc4_22 := X.c4
  have Xc5_22 := X.c5
  have Fc0_23 := F.c0
  have Fc1_23 := F.c1
  have Fc2_23 := F.c2
  have Fc3_23 := F.c3
  have Fc4_23 := F.c4
  have Fc5_23 := F.c5
  have b13 := below_alloc w12 (.cells #[.string F1, .string C] 9)
  have L : R2 (w12.alloc (.cells #[.string F1, .string C] 9)) w12.heap.size (.string F1) (.string C) := r2_new _ _ _ _
  replace X := X.later (b13.mono X.lt)
  replace D := D.later (b13.mono D.lt)
  replace Y := Y.later (b13.mono Y.lt)
  replace F := F.later (b13.mono F.lt)
  replace BB := BB.trans (b13.mono BB.size)
  clear b13
  have Xc0_24 := X.c0
  have Xc1_24 := X.c1
  have Xc2_24 := X.c2
  have Xc3_24 := X.c3
  have Xc4_24 := X.c4
  have Xc5_24 := X.c5
  have Fc0_25 := F.c0
  have Fc1_25 := F.c1
  have Fc2_25 := F.c2
  have Fc3_25 := F.c3
  have Fc4_25 := F.c4
  have Fc5_25 := F.c5
  have Lc0_26 := L.c0
  have Lc1_26 := L.c1
  have Xc0_27 := X.c0
  have Xc1_27 := X.c1
  have Xc2_27 := X.c2
  have Xc3_27 := X.c3
  have Xc4_27 := X.c4
  have Xc5_27 := X.c5
  go_wp2_with fail
  refine (hS1 _).mono ?_
  rintro e w14 ⟨rfl, b14⟩
  clear Xc0_27 Xc1_27 Xc2_27 Xc3_27 Xc4_27 Xc5_27
  clear Fc0_25 Fc1_25 Fc2_25 Fc3_25 Fc4_25 Fc5_25
  clear Lc0_26 Lc1_26
  clear Xc0_22 Xc1_22 Xc2_22 Xc3_22 Xc4_22 Xc5_22 Fc0_23 Fc1_23 Fc2_23 Fc3_23 Fc4_23 Fc5_23 Xc0_24 Xc1_24 Xc2_24 Xc3_24 Xc4_24 Xc5_24
  replace X := X.later (b14.mono X.lt)
  replace D := D.later (b14.mono D.lt)
  replace Y := Y.later (b14.mono Y.lt)
  replace F := F.later (b14.mono F.lt)
  replace L := L.later (b14.mono L.lt)
  replace BB := BB.trans (b14.mono BB.size)
  clear b14 
  have Xc0_28 := X.c0
  have Xc1_28 := X.c1
  have Xc2_28 := X.c2
  have Xc3_28 := X.c3
  have Xc4_28 := X.c4
  have Xc5_28 := X.c5
  have Fc0_29 := F.c0
  have Fc1_29 := F.c1
  have Fc2_29 := F.c2
  have Fc3_29 := F.c3
  have Fc4_29 := F.c4
  have Fc5_29 := F.c5
  have Lc0_30 := L.c0
  have Lc1_30 := L.c1
  clear Xc0_28 Xc1_28 Xc2_28 Xc3_28 Xc4_28 Xc5_28
  clear Fc0_29 Fc1_29 Fc2_29 Fc3_29 Fc4_29 Fc5_29
  clear Lc0_30 Lc1_30
  go_wp2
  have TQ := T.later BB
  refine wp_region_specs_mid (n := 12) [.val (.slice (some ⟨w12.heap.size, 0, none⟩) 2 2), .val (.pointer (some ⟨w12.heap.size, 0, none⟩)), .val (.string F1), .val (.slice (some ⟨w12.heap.size, 0, none⟩) 2 2), .val (.pointer (some ⟨w12.heap.size, 1, none⟩)), .val (.string C), .val (.tuple #[.agg #[.int .u64 ((key : Nat) : Int), .int .i64 (ep), .int .i64 (ser + 1), .int .i64 (siz), .int .i64 (a), .int .i64 (b)], .int .i64 (0), .int .i64 0]), .val (.tuple #[.agg #[.int .u64 ((key : Nat) : Int), .int .i64 (ep), .int .i64 (ser + 1), .int .i64 (siz), .int .i64 (a), .int .i64 (b)], .int .i64 (0), .int .i64 0]), .val (.agg #[.int .u64 ((key : Nat) : Int), .int .i64 (ep), .int .i64 (ser + 1), .int .i64 (siz), .int .i64 (a), .int .i64 (b)]), .val (.int .i64 (0)), .val (.int .i64 0), .nbox w14.heap.size, .val (undef), .val (.int .i64 (0)), .val (.int .i64 0)] [.val (.slice (some ⟨w12.heap.size, 0, none⟩) 2 2), .val (.pointer (some ⟨w12.heap.size, 0, none⟩)), .val (.string F1), .val (.slice (some ⟨w12.heap.size, 0, none⟩) 2 2), .val (.pointer (some ⟨w12.heap.size, 1, none⟩)), .val (.string C), .val (.tuple #[.agg #[.int .u64 ((key : Nat) : Int), .int .i64 (ep), .int .i64 (ser + 1), .int .i64 (siz), .int .i64 (a), .int .i64 (b)], .int .i64 (0), .int .i64 0]), .val (.tuple #[.agg #[.int .u64 ((key : Nat) : Int), .int .i64 (ep), .int .i64 (ser + 1), .int .i64 (siz), .int .i64 (a), .int .i64 (b)], .int .i64 (0), .int .i64 0]), .val (.agg #[.int .u64 ((key : Nat) : Int), .int .i64 (ep), .int .i64 (ser + 1), .int .i64 (siz), .int .i64 (a), .int .i64 (b)]), .val (.int .i64 (0)), .val (.int .i64 0), .sbox w14.heap.size (key) (ep) (ser + 1) (siz) (a) (b), .val (undef), .val (.int .i64 (0)), .val (.int .i64 0)] (by kernel_rfl) (by kernel_rfl) rfl rfl rfl ?_ ?_ ?_ ?_
  · refine ⟨?_, ?_⟩
    · intro hp A w1 hb ho hd
      clear hp
      have e17 : A.tmps[17]?.getD undef = .slice (some ⟨w12.heap.size, 0, none⟩) 2 2 := olds_get ho 17 (by kernel_rfl)
      refine ⟨rfl, goes_value (v := .slice (some ⟨w12.heap.size, 0, none⟩) 2 2) ?_ rfl⟩
      simp [go_sem, e17]
    refine ⟨?_, ?_⟩
    · intro hp A w1 hb ho hd
      clear hp
      have e107 : A.tmps[107]?.getD undef = .slice (some ⟨w12.heap.size, 0, none⟩) 2 2 := getq (hd _ (Array.mem_of_getElem? (i := 0) rfl) rfl _ _ rfl rfl)
      refine ⟨rfl, goes_value (v := .pointer (some ⟨w12.heap.size, 0, none⟩)) ?_ rfl⟩
      simp [go_sem, e107]
    refine ⟨?_, ?_⟩
    · intro hp A w1 hb ho hd
      clear hp
      have e108 : A.tmps[108]?.getD undef = .pointer (some ⟨w12.heap.size, 0, none⟩) := getq (hd _ (Array.mem_of_getElem? (i := 0) rfl) rfl _ _ rfl rfl)
      have cz := (L.later (hb.mono L.lt)).c0
      refine ⟨rfl, goes_value (v := .string F1) ?_ rfl⟩
      simp [go_sem, e108, cz]
    refine ⟨?_, ?_⟩
    · intro hp A w1 hb ho hd
      clear hp
      have e17 : A.tmps[17]?.getD undef = .slice (some ⟨w12.heap.size, 0, none⟩) 2 2 := olds_get ho 17 (by kernel_rfl)
      refine ⟨rfl, goes_value (v := .slice (some ⟨w12.heap.size, 0, none⟩) 2 2) ?_ rfl⟩
      simp [go_sem, e17]
    refine ⟨?_, ?_⟩
    · intro hp A w1 hb ho hd
      clear hp
      have e110 : A.tmps[110]?.getD undef = .slice (some ⟨w12.heap.size, 0, none⟩) 2 2 := getq (hd _ (Array.mem_of_getElem? (i := 0) rfl) rfl _ _ rfl rfl)
      refine ⟨rfl, goes_value (v := .pointer (some ⟨w12.heap.size, 1, none⟩)) ?_ rfl⟩
      simp [go_sem, e110]
    refine ⟨?_, ?_⟩
    · intro hp A w1 hb ho hd
      clear hp
      have e111 : A.tmps[111]?.getD undef = .pointer (some ⟨w12.heap.size, 1, none⟩) := getq (hd _ (Array.mem_of_getElem? (i := 0) rfl) rfl _ _ rfl rfl)
      have cz := (L.later (hb.mono L.lt)).c1
      refine ⟨rfl, goes_value (v := .string C) ?_ rfl⟩
      simp [go_sem, e111, cz]
    refine ⟨?_, ?_⟩
    · intro hp A w1 hb ho hd
      clear hp
      have e109 : A.tmps[109]?.getD undef = .string F1 := getq (hd _ (Array.mem_of_getElem? (i := 0) rfl) rfl _ _ rfl rfl)
      have e112 : A.tmps[112]?.getD undef = .string C := getq (hd _ (Array.mem_of_getElem? (i := 1) rfl) rfl _ _ rfl rfl)
      refine ⟨rfl, goes_call (f := 18) (args := #[.string F1, .string C]) ?_ (hP w1 (TQ.later hb))⟩
      simp [go_sem, e109, e112]
    refine ⟨?_, ?_⟩
    · intro hp A w1 hb ho hd
      clear hp
      have e113 : A.tmps[113]?.getD undef = .tuple #[.agg #[.int .u64 ((key : Nat) : Int), .int .i64 (ep), .int .i64 (ser + 1), .int .i64 (siz), .int .i64 (a), .int .i64 (b)], .int .i64 (0), .int .i64 0] := getq (hd _ (Array.mem_of_getElem? (i := 0) rfl) rfl _ _ rfl rfl)
      refine ⟨rfl, goes_value (v := .tuple #[.agg #[.int .u64 ((key : Nat) : Int), .int .i64 (ep), .int .i64 (ser + 1), .int .i64 (siz), .int .i64 (a), .int .i64 (b)], .int .i64 (0), .int .i64 0]) ?_ rfl⟩
      simp [go_sem, e113]
    refine ⟨?_, ?_⟩
    · intro hp A w1 hb ho hd
      clear hp
      have e106 : A.tmps[106]?.getD undef = .tuple #[.agg #[.int .u64 ((key : Nat) : Int), .int .i64 (ep), .int .i64 (ser + 1), .int .i64 (siz), .int .i64 (a), .int .i64 (b)], .int .i64 (0), .int .i64 0] := getq (hd _ (Array.mem_of_getElem? (i := 0) rfl) rfl _ _ rfl rfl)
      refine ⟨rfl, goes_value (v := .agg #[.int .u64 ((key : Nat) : Int), .int .i64 (ep), .int .i64 (ser + 1), .int .i64 (siz), .int .i64 (a), .int .i64 (b)]) ?_ rfl⟩
      simp [go_sem, e106]
    refine ⟨?_, ?_⟩
    · intro hp A w1 hb ho hd
      clear hp
      have e106 : A.tmps[106]?.getD undef = .tuple #[.agg #[.int .u64 ((key : Nat) : Int), .int .i64 (ep), .int .i64 (ser + 1), .int .i64 (siz), .int .i64 (a), .int .i64 (b)], .int .i64 (0), .int .i64 0] := getq (hd _ (Array.mem_of_getElem? (i := 0) rfl) rfl _ _ rfl rfl)
      refine ⟨rfl, goes_value (v := .int .i64 (0)) ?_ rfl⟩
      simp [go_sem, e106]
    refine ⟨?_, ?_⟩
    · intro hp A w1 hb ho hd
      clear hp
      have e106 : A.tmps[106]?.getD undef = .tuple #[.agg #[.int .u64 ((key : Nat) : Int), .int .i64 (ep), .int .i64 (ser + 1), .int .i64 (siz), .int .i64 (a), .int .i64 (b)], .int .i64 (0), .int .i64 0] := getq (hd _ (Array.mem_of_getElem? (i := 0) rfl) rfl _ _ rfl rfl)
      refine ⟨rfl, goes_value (v := .int .i64 0) ?_ rfl⟩
      simp [go_sem, e106]
    refine ⟨?_, ?_⟩
    · intro hp A w1 hb ho hd
      clear hp
      refine ⟨rfl, goes_alloc (v := .pointer (some ⟨w1.heap.size, 0, none⟩)) (o := .cells #[.int .u64 ((0 : Nat) : Int), .int .i64 0, .int .i64 0, .int .i64 0, .int .i64 0, .int .i64 0] 24) ?_ ⟨_, rfl, hb.size, boxC _ 0 0 0 0 0 0 24⟩⟩
      simp [go_sem]
    refine ⟨?_, ?_⟩
    · exact fun hp => absurd hp (by decide)
    refine ⟨?_, ?_⟩
    · intro hp A w1 hb ho hd
      clear hp
      have e115 : A.tmps[115]?.getD undef = .int .i64 (0) := getq (hd _ (Array.mem_of_getElem? (i := 0) rfl) rfl _ _ rfl rfl)
      refine ⟨rfl, goes_value (v := .int .i64 (0)) ?_ rfl⟩
      simp [go_sem, e115]
    refine ⟨?_, ?_⟩
    · intro hp A w1 hb ho hd
      clear hp
      have e116 : A.tmps[116]?.getD undef = .int .i64 0 := getq (hd _ (Array.mem_of_getElem? (i := 0) rfl) rfl _ _ rfl rfl)
      refine ⟨rfl, goes_value (v := .int .i64 0) ?_ rfl⟩
      simp [go_sem, e116]
    trivial
  · refine ⟨?_, ?_⟩
    · exact not_needed (by kernel_rfl)
    refine ⟨?_, ?_⟩
    · exact not_needed (by kernel_rfl)
    refine ⟨?_, ?_⟩
    · exact not_needed (by kernel_rfl)
    refine ⟨?_, ?_⟩
    · exact not_needed (by kernel_rfl)
    refine ⟨?_, ?_⟩
    · exact not_needed (by kernel_rfl)
    refine ⟨?_, ?_⟩
    · exact not_needed (by kernel_rfl)
    refine ⟨?_, ?_⟩
    · exact not_needed (by kernel_rfl)
    refine ⟨?_, ?_⟩
    · exact not_needed (by kernel_rfl)
    refine ⟨?_, ?_⟩
    · exact not_needed (by kernel_rfl)
    refine ⟨?_, ?_⟩
    · intro hp A w1 hb ho hd
      clear hp
      have e106 : A.tmps[106]?.getD undef = .tuple #[.agg #[.int .u64 ((key : Nat) : Int), .int .i64 (ep), .int .i64 (ser + 1), .int .i64 (siz), .int .i64 (a), .int .i64 (b)], .int .i64 (0), .int .i64 0] := getq (hd _ (Array.mem_of_getElem? (i := 0) rfl) rfl _ _ rfl rfl)
      refine ⟨rfl, goes_value (v := .int .i64 (0)) ?_ rfl⟩
      simp [go_sem, e106]
    refine ⟨?_, ?_⟩
    · intro hp A w1 hb ho hd
      clear hp
      have e106 : A.tmps[106]?.getD undef = .tuple #[.agg #[.int .u64 ((key : Nat) : Int), .int .i64 (ep), .int .i64 (ser + 1), .int .i64 (siz), .int .i64 (a), .int .i64 (b)], .int .i64 (0), .int .i64 0] := getq (hd _ (Array.mem_of_getElem? (i := 0) rfl) rfl _ _ rfl rfl)
      refine ⟨rfl, goes_value (v := .int .i64 0) ?_ rfl⟩
      simp [go_sem, e106]
    refine ⟨?_, ?_⟩
    · exact not_needed (by kernel_rfl)
    refine ⟨?_, ?_⟩
    · exact not_needed (by kernel_rfl)
    refine ⟨?_, ?_⟩
    · intro hp A w1 hb ho hd
      clear hp
      have e115 : A.tmps[115]?.getD undef = .int .i64 (0) := getq (hd _ (Array.mem_of_getElem? (i := 0) rfl) rfl _ _ rfl rfl)
      refine ⟨rfl, goes_value (v := .int .i64 (0)) ?_ rfl⟩
      simp [go_sem, e115]
    refine ⟨?_, ?_⟩
    · intro hp A w1 hb ho hd
      clear hp
      have e116 : A.tmps[116]?.getD undef = .int .i64 0 := getq (hd _ (Array.mem_of_getElem? (i := 0) rfl) rfl _ _ rfl rfl)
      refine ⟨rfl, goes_value (v := .int .i64 0) ?_ rfl⟩
      simp [go_sem, e116]
    trivial
  · intro A w2 hb ho hd
    obtain ⟨g, hg, hge, Zb⟩ := hd _ (Array.mem_of_getElem? (i := 0) rfl) rfl _ _ rfl rfl
    have e18 := getq hg
    have eV : A.tmps[114]?.getD undef = .agg #[.int .u64 ((key : Nat) : Int), .int .i64 (ep), .int .i64 (ser + 1), .int .i64 (siz), .int .i64 (a), .int .i64 (b)] := getq (hd _ (Array.mem_of_getElem? (i := 1) rfl) rfl _ _ rfl rfl)
    have zc0 := Zb.c0
    have zc1 := Zb.c1
    have zc2 := Zb.c2
    have zc3 := Zb.c3
    have zc4 := Zb.c4
    have zc5 := Zb.c5
    have zf0 := Zb.fr 0 (by omega)
    have zf1 := Zb.fr 1 (by omega)
    have zf2 := Zb.fr 2 (by omega)
    have zf3 := Zb.fr 3 (by omega)
    have zf4 := Zb.fr 4 (by omega)
    have zf5 := Zb.fr 5 (by omega)
    refine ⟨_, by simp [go_sem, e18, eV, zc0, zc1, zc2, zc3, zc4, zc5, zf0, zf1, zf2, zf3, zf4, zf5]; rfl, ?_, ?_⟩
    · exact BoxC.below Zb hb hge (key) (ep) (ser + 1) (siz) (a) (b)
    · intro j o d hj hdst h
      match j, hj, hdst, h with
      | 0, _, _, h => exact h
      | 1, _, _, h => exact h
      | 2, _, _, h => exact h
      | 3, _, _, h => exact h
      | 4, _, _, h => exact h
      | 5, _, _, h => exact h
      | 6, _, _, h => exact h
      | 7, _, _, h => exact h
      | 8, _, _, h => exact h
      | 9, _, _, h => exact h
      | 10, _, _, h => exact h
      | 11, hj, hdst, _ =>
        cases hj
        cases hdst
        exact ⟨g, hg, hge, Zb.put (key) (ep) (ser + 1) (siz) (a) (b)⟩
      | 12, _, _, h => exact h
      | 13, _, _, h => exact h
      | 14, _, _, h => exact h
      | j + 15, hj, _, _ => simp at hj
  intro A w9 hb9 hdf hsz hol hft
  obtain ⟨gx, hgx, hgxe, XN⟩ := hft 11 _ 18 rfl rfl
  have m107 : A.tmps.getD 107 undef = .slice (some ⟨w12.heap.size, 0, none⟩) 2 2 := hft 0 _ 107 rfl rfl
  have m108 : A.tmps.getD 108 undef = .pointer (some ⟨w12.heap.size, 0, none⟩) := hft 1 _ 108 rfl rfl
  have m109 : A.tmps.getD 109 undef = .string F1 := hft 2 _ 109 rfl rfl
  have m110 : A.tmps.getD 110 undef = .slice (some ⟨w12.heap.size, 0, none⟩) 2 2 := hft 3 _ 110 rfl rfl
  have m111 : A.tmps.getD 111 undef = .pointer (some ⟨w12.heap.size, 1, none⟩) := hft 4 _ 111 rfl rfl
  have m112 : A.tmps.getD 112 undef = .string C := hft 5 _ 112 rfl rfl
  have m113 : A.tmps.getD 113 undef = .tuple #[.agg #[.int .u64 ((key : Nat) : Int), .int .i64 (ep), .int .i64 (ser + 1), .int .i64 (siz), .int .i64 (a), .int .i64 (b)], .int .i64 (0), .int .i64 0] := hft 6 _ 113 rfl rfl
  have m106 : A.tmps.getD 106 undef = .tuple #[.agg #[.int .u64 ((key : Nat) : Int), .int .i64 (ep), .int .i64 (ser + 1), .int .i64 (siz), .int .i64 (a), .int .i64 (b)], .int .i64 (0), .int .i64 0] := hft 7 _ 106 rfl rfl
  have m114 : A.tmps.getD 114 undef = .agg #[.int .u64 ((key : Nat) : Int), .int .i64 (ep), .int .i64 (ser + 1), .int .i64 (siz), .int .i64 (a), .int .i64 (b)] := hft 8 _ 114 rfl rfl
  have m115 : A.tmps.getD 115 undef = .int .i64 (0) := hft 9 _ 115 rfl rfl
  have m116 : A.tmps.getD 116 undef = .int .i64 0 := hft 10 _ 116 rfl rfl
  have m19 : A.tmps.getD 19 undef = .int .i64 (0) := hft 13 _ 19 rfl rfl
  have m20 : A.tmps.getD 20 undef = .int .i64 0 := hft 14 _ 20 rfl rfl
  rename_i KK hKK
  refine hKK _ _ ?_
  show Code.wp _ _ _ A w9
  rw [frame_puts hdf hsz hol]
  simp only [List.foldl_cons, List.foldl_nil, Act.put, Option.getD_some, m107, m108, m109, m110, m111, m112, m113, m106, m114, m115, m116, m19, m20, hgx, List.setIfInBounds_toArray, List.set_cons_succ, List.set_cons_zero]
  clear m107 m108 m109 m110 m111 m112 m113 m106 m114 m115 m116 m19 m20 hft hol hsz hdf hKK hgx
  replace X := X.later (hb9.mono X.lt)
  replace D := D.later (hb9.mono D.lt)
  replace Y := Y.later (hb9.mono Y.lt)
  replace F := F.later (hb9.mono F.lt)
  replace L := L.later (hb9.mono L.lt)
  replace BB := BB.trans (hb9.mono BB.size)
  have XNc0_31 := XN.c0
  have XNc1_31 := XN.c1
  have XNc2_31 := XN.c2
  have XNc3_31 := XN.c3
  have XNc4_31 := XN.c4
  have XNc5_31 := XN.c5
  have Xc0_32 := X.c0
  have Xc1_32 := X.c1
  have Xc2_32 := X.c2
  have Xc3_32 := X.c3
  have Xc4_32 := X.c4
  have Xc5_32 := X.c5
  have Yc0_33 := Y.c0
  have Yc1_33 := Y.c1
  have Yc2_33 := Y.c2
  have Yc3_33 := Y.c3
  have Yc4_33 := Y.c4
  have Yc5_33 := Y.c5
  go_wp2_with fail
  refine (hSx _).mono ?_
  rintro e w15 ⟨rfl, b15⟩
  clear XNc0_31 XNc1_31 XNc2_31 XNc3_31 XNc4_31 XNc5_31
  clear Xc0_32 Xc1_32 Xc2_32 Xc3_32 Xc4_32 Xc5_32
  clear Yc0_33 Yc1_33 Yc2_33 Yc3_33 Yc4_33 Yc5_33
  replace X := X.later (b15.mono X.lt)
  replace D := D.later (b15.mono D.lt)
  replace Y := Y.later (b15.mono Y.lt)
  replace F := F.later (b15.mono F.lt)
  replace L := L.later (b15.mono L.lt)
  replace XN := XN.later (b15.mono XN.lt)
  replace BB := BB.trans (b15.mono BB.size)
  clear b15 
  have XNc0_34 := XN.c0
  have XNc1_34 := XN.c1
  have XNc2_34 := XN.c2
  have XNc3_34 := XN.c3
  have XNc4_34 := XN.c4
  have XNc5_34 := XN.c5
  have Xc0_35 := X.c0
  have Xc1_35 := X.c1
  have Xc2_35 := X.c2
  have Xc3_35 := X.c3
  have Xc4_35 := X.c4
  have Xc5_35 := X.c5
  have Yc0_36 := Y.c0
  have Yc1_36 := Y.c1
  have Yc2_36 := Y.c2
  have Yc3_36 := Y.c3
  have Yc4_36 := Y.c4
  have Yc5_36 := Y.c5
  go_wp2_with fail
  refine (awake_any _ (T.later BB)).mono ?_
  rintro e w16 ⟨rfl, b16⟩
  clear XNc0_34 XNc1_34 XNc2_34 XNc3_34 XNc4_34 XNc5_34
  clear Xc0_35 Xc1_35 Xc2_35 Xc3_35 Xc4_35 Xc5_35
  clear Yc0_36 Yc1_36 Yc2_36 Yc3_36 Yc4_36 Yc5_36
  replace X := X.later (b16.mono X.lt)
  replace D := D.later (b16.mono D.lt)
  replace Y := Y.later (b16.mono Y.lt)
  replace F := F.later (b16.mono F.lt)
  replace L := L.later (b16.mono L.lt)
  replace XN := XN.later (b16.mono XN.lt)
  replace BB := BB.trans (b16.mono BB.size)
  clear b16 
  have XNc0_37 := XN.c0
  have XNc1_37 := XN.c1
  have XNc2_37 := XN.c2
  have XNc3_37 := XN.c3
  have XNc4_37 := XN.c4
  have XNc5_37 := XN.c5
  have Xc0_38 := X.c0
  have Xc1_38 := X.c1
  have Xc2_38 := X.c2
  have Xc3_38 := X.c3
  have Xc4_38 := X.c4
  have Xc5_38 := X.c5
  have Yc0_39 := Y.c0
  have Yc1_39 := Y.c1
  have Yc2_39 := Y.c2
  have Yc3_39 := Y.c3
  have Yc4_39 := Y.c4
  have Yc5_39 := Y.c5
  go_wp2
  go_ret
  exact ⟨rfl, BB⟩

set_option maxRecDepth 100000 in
set_option maxHeartbeats 16000000 in
theorem torn_p20 (key : Nat) (ep ser siz tail num a b : Int) (l1 : ser < 1099511627776) (l0 : 0 < ser) (C F1 Z : ByteArray) (G : ByteArray) (zF : F1.size = 64) (_zC : C.size = 64) (_zZ : Z.size = 64) (zG : G.size = 64)
    (hPl : ∀ w, Calls Tryd.prog 10 #[.agg #[.int .u64 ((key : Nat) : Int), .int .i64 (ep), .int .i64 (ser), .int .i64 (siz), .int .i64 (tail), .int .i64 (num)]] w fun e w' => e = .returned (.agg #[.int .u64 ((key : Nat) : Int), .int .i64 (ep), .int .i64 (ser), .int .i64 (siz), .int .i64 (tail), .int .i64 (num)]) ∧ Below w.heap.size w w')
    (hRc : ∀ w, Calls Tryd.prog 9 #[.agg #[.int .u64 ((key : Nat) : Int), .int .i64 (ep), .int .i64 (ser), .int .i64 (siz), .int .i64 (tail), .int .i64 (num)]] w fun e w' => e = .returned (.int .i64 0) ∧ Below w.heap.size w w')
    (hN : ∀ w, Calls Tryd.prog 20 #[.agg #[.int .u64 ((key : Nat) : Int), .int .i64 (ep), .int .i64 (ser), .int .i64 (siz), .int .i64 (tail), .int .i64 (num)], .int .i64 a, .int .i64 b] w fun e w' => e = .returned (.tuple #[.agg #[.int .u64 ((key : Nat) : Int), .int .i64 (ep), .int .i64 (ser + 1), .int .i64 (siz), .int .i64 (a), .int .i64 (b)], .int .i64 0]) ∧ Below w.heap.size w w')
    (hE1 : ∀ w, Tab w → Calls Tryd.prog 11 #[.agg #[.int .u64 ((key : Nat) : Int), .int .i64 (ep), .int .i64 (ser), .int .i64 (siz), .int .i64 (tail), .int .i64 (num)]] w fun e w' => e = .returned (.tuple #[.string C, .int .i64 0]) ∧ Below w.heap.size w w')
    (hE2 : ∀ w, Tab w → Calls Tryd.prog 11 #[.agg #[.int .u64 ((key : Nat) : Int), .int .i64 (ep), .int .i64 (ser + 1), .int .i64 (siz), .int .i64 (a), .int .i64 (b)]] w fun e w' => e = .returned (.tuple #[.string F1, .int .i64 0]) ∧ Below w.heap.size w w')
    (hS1 : ∀ w, Calls Tryd.prog 15 #[.agg #[.int .u64 ((key : Nat) : Int), .int .i64 (ep), .int .i64 (ser), .int .i64 (siz), .int .i64 (tail), .int .i64 (num)]] w fun e w' => e = .returned (.int .i64 0) ∧ Below w.heap.size w w')
    (hS2 : ∀ w, Calls Tryd.prog 15 #[.agg #[.int .u64 ((key : Nat) : Int), .int .i64 (ep), .int .i64 (ser + 1), .int .i64 (siz), .int .i64 (a), .int .i64 (b)]] w fun e w' => e = .returned (.int .i64 1) ∧ Below w.heap.size w w')
    (hP : ∀ w, Tab w → Calls Tryd.prog 18 #[.string C, .string (F1.extract 0 32 ++ G.extract 32 64)] w fun e w' => e = .returned (.tuple #[.agg #[.int .u64 ((key : Nat) : Int), .int .i64 (ep), .int .i64 (ser), .int .i64 (siz), .int .i64 (tail), .int .i64 (num)], .int .i64 (0), .int .i64 0]) ∧ Below w.heap.size w w')
    (hSx : ∀ w, Calls Tryd.prog 15 #[.agg #[.int .u64 ((key : Nat) : Int), .int .i64 (ep), .int .i64 (ser), .int .i64 (siz), .int .i64 (tail), .int .i64 (num)]] w fun e w' => e = .returned (.int .i64 (0)) ∧ Below w.heap.size w w')
    (hZ : Hid (str (List.replicate 64 0) = Z))
    (hE3 : ∀ w, Tab w → Calls Tryd.prog 11 #[.agg #[.int .u64 ((key : Nat) : Int), .int .i64 (ep), .int .i64 (ser - 1), .int .i64 (siz), .int .i64 (tail), .int .i64 (num)]] w fun e w' => e = .returned (.tuple #[.string G, .int .i64 0]) ∧ Below w.heap.size w w')
    (W : World) (T : Tab W) : Calls Tryd.prog 7 #[.agg #[.int .u64 ((key : Nat) : Int), .int .i64 (ep), .int .i64 (ser), .int .i64 (siz), .int .i64 (tail), .int .i64 (num)], .agg #[.int .i64 a, .int .i64 b], .int .i64 2] W fun e w' => e = .returned (.bool true) ∧ Below W.heap.size W w' := by
  have BB := Below.refl W.heap.size W
  have b1 := below_alloc W (.cells #[.int .u64 ((key : Nat) : Int), .int .i64 (ep), .int .i64 (ser), .int .i64 (siz), .int .i64 (tail), .int .i64 (num)] 24)
  have X : BoxC (W.alloc (.cells #[.int .u64 ((key : Nat) : Int), .int .i64 (ep), .int .i64 (ser), .int .i64 (siz), .int .i64 (tail), .int .i64 (num)] 24)) W.heap.size (key) (ep) (ser) (siz) (tail) (num) := boxC W (key) (ep) (ser) (siz) (tail) (num) 24
  replace BB := BB.trans (b1.mono BB.size)
  clear b1
  have Xc0_1 := X.c0
  have Xc1_1 := X.c1
  have Xc2_1 := X.c2
  have Xc3_1 := X.c3
  have Xc4_1 := X.c4
  have Xc5_1 := X.c5
  have b2 := below_alloc (W.alloc (.cells #[.int .u64 ((key : Nat) : Int), .int .i64 (ep), .int .i64 (ser), .int .i64 (siz), .int .i64 (tail), .int .i64 (num)] 24)) (.cells #[.int .i64 a, .int .i64 b] 49)
  have D : R2 ((W.alloc (.cells #[.int .u64 ((key : Nat) : Int), .int .i64 (ep), .int .i64 (ser), .int .i64 (siz), .int .i64 (tail), .int .i64 (num)] 24)).alloc (.cells #[.int .i64 a, .int .i64 b] 49)) (W.alloc (.cells #[.int .u64 ((key : Nat) : Int), .int .i64 (ep), .int .i64 (ser), .int .i64 (siz), .int .i64 (tail), .int .i64 (num)] 24)).heap.size (.int .i64 a) (.int .i64 b) := r2_new _ _ _ _
  simp only [World.size_alloc] at D
  replace X := X.later (b2.mono X.lt)
  replace BB := BB.trans (b2.mono BB.size)
  clear b2
  have Xc0_2 := X.c0
  have Xc1_2 := X.c1
  have Xc2_2 := X.c2
  have Xc3_2 := X.c3
  have Xc4_2 := X.c4
  have Xc5_2 := X.c5
  have Dc0_3 := D.c0
  have Dc1_3 := D.c1
  go_enter Tryd.func7, Tryd.ntmps7
  go_wp2_with fail
  refine (hPl _).mono ?_
  rintro e w3 ⟨rfl, b3⟩
  clear Xc0_2 Xc1_2 Xc2_2 Xc3_2 Xc4_2 Xc5_2
  clear Dc0_3 Dc1_3
  clear Xc0_1 Xc1_1 Xc2_1 Xc3_1 Xc4_1 Xc5_1
  replace X := X.later (b3.mono X.lt)
  replace D := D.later (b3.mono D.lt)
  replace BB := BB.trans (b3.mono BB.size)
  clear b3 
  have Xc0_4 := X.c0
  have Xc1_4 := X.c1
  have Xc2_4 := X.c2
  have Xc3_4 := X.c3
  have Xc4_4 := X.c4
  have Xc5_4 := X.c5
  have Dc0_5 := D.c0
  have Dc1_5 := D.c1
  go_wp2_with fail
  refine (hRc _).mono ?_
  rintro e w4 ⟨rfl, b4⟩
  clear Xc0_4 Xc1_4 Xc2_4 Xc3_4 Xc4_4 Xc5_4
  clear Dc0_5 Dc1_5
  replace X := X.later (b4.mono X.lt)
  replace D := D.later (b4.mono D.lt)
  replace BB := BB.trans (b4.mono BB.size)
  clear b4 
  have Xc0_6 := X.c0
  have Xc1_6 := X.c1
  have Xc2_6 := X.c2
  have Xc3_6 := X.c3
  have Xc4_6 := X.c4
  have Xc5_6 := X.c5
  have Dc0_7 := D.c0
  have Dc1_7 := D.c1
  go_wp2_with fail
  refine (hN _).mono ?_
  rintro e w5 ⟨rfl, b5⟩
  clear Xc0_6 Xc1_6 Xc2_6 Xc3_6 Xc4_6 Xc5_6
  clear Dc0_7 Dc1_7
  replace X := X.later (b5.mono X.lt)
  replace D := D.later (b5.mono D.lt)
  replace BB := BB.trans (b5.mono BB.size)
  clear b5 
  have Xc0_8 := X.c0
  have Xc1_8 := X.c1
  have Xc2_8 := X.c2
  have Xc3_8 := X.c3
  have Xc4_8 := X.c4
  have Xc5_8 := X.c5
  have Dc0_9 := D.c0
  have Dc1_9 := D.c1
  have b6 := below_alloc w5 (.cells #[.int .u64 ((key : Nat) : Int), .int .i64 (ep), .int .i64 (ser + 1), .int .i64 (siz), .int .i64 (a), .int .i64 (b)] 24)
  have Y : BoxC (w5.alloc (.cells #[.int .u64 ((key : Nat) : Int), .int .i64 (ep), .int .i64 (ser + 1), .int .i64 (siz), .int .i64 (a), .int .i64 (b)] 24)) w5.heap.size (key) (ep) (ser + 1) (siz) (a) (b) := boxC w5 (key) (ep) (ser + 1) (siz) (a) (b) 24
  replace X := X.later (b6.mono X.lt)
  replace D := D.later (b6.mono D.lt)
  replace BB := BB.trans (b6.mono BB.size)
  clear b6
  have Xc0_10 := X.c0
  have Xc1_10 := X.c1
  have Xc2_10 := X.c2
  have Xc3_10 := X.c3
  have Xc4_10 := X.c4
  have Xc5_10 := X.c5
  have Dc0_11 := D.c0
  have Dc1_11 := D.c1
  have Yc0_12 := Y.c0
  have Yc1_12 := Y.c1
  have Yc2_12 := Y.c2
  have Yc3_12 := Y.c3
  have Yc4_12 := Y.c4
  have Yc5_12 := Y.c5
  go_wp2_with fail
  refine (hE1 _ (T.later BB)).mono ?_
  rintro e w7 ⟨rfl, b7⟩
  clear Xc0_10 Xc1_10 Xc2_10 Xc3_10 Xc4_10 Xc5_10
  clear Dc0_11 Dc1_11
  clear Yc0_12 Yc1_12 Yc2_12 Yc3_12 Yc4_12 Yc5_12
  clear Xc0_8 Xc1_8 Xc2_8 Xc3_8 Xc4_8 Xc5_8 Dc0_9 Dc1_9
  replace X := X.later (b7.mono X.lt)
  replace D := D.later (b7.mono D.lt)
  replace Y := Y.later (b7.mono Y.lt)
  replace BB := BB.trans (b7.mono BB.size)
  clear b7 
  have Xc0_13 := X.c0
  have Xc1_13 := X.c1
  have Xc2_13 := X.c2
  have Xc3_13 := X.c3
  have Xc4_13 := X.c4
  have Xc5_13 := X.c5
  have Dc0_14 := D.c0
  have Dc1_14 := D.c1
  have Yc0_15 := Y.c0
  have Yc1_15 := Y.c1
  have Yc2_15 := Y.c2
  have Yc3_15 := Y.c3
  have Yc4_15 := Y.c4
  have Yc5_15 := Y.c5
  go_wp2_with fail
  refine (hE2 _ (T.later BB)).mono ?_
  rintro e w8 ⟨rfl, b8⟩
  clear Xc0_13 Xc1_13 Xc2_13 Xc3_13 Xc4_13 Xc5_13
  clear Dc0_14 Dc1_14
  clear Yc0_15 Yc1_15 Yc2_15 Yc3_15 Yc4_15 Yc5_15
  replace X := X.later (b8.mono X.lt)
  replace D := D.later (b8.mono D.lt)
  replace Y := Y.later (b8.mono Y.lt)
  replace BB := BB.trans (b8.mono BB.size)
  clear b8 
  have Xc0_16 := X.c0
  have Xc1_16 := X.c1
  have Xc2_16 := X.c2
  have Xc3_16 := X.c3
  have Xc4_16 := X.c4
  have Xc5_16 := X.c5
  have Dc0_17 := D.c0
  have Dc1_17 := D.c1
  have Yc0_18 := Y.c0
  have Yc1_18 := Y.c1
  have Yc2_18 := Y.c2
  have Yc3_18 := Y.c3
  have Yc4_18 := Y.c4
  have Yc5_18 := Y.c5
  clear Xc0_16 Xc1_16 Xc2_16 Xc3_16 Xc4_16 Xc5_16
  clear Dc0_17 Dc1_17
  clear Yc0_18 Yc1_18 Yc2_18 Yc3_18 Yc4_18 Yc5_18
  have hne9 := later_ne w8
  have qX0 : ∀ p : Later w8, p.val.cell? ⟨W.heap.size, 0, none⟩ = some (.int .u64 ((key : Nat) : Int)) := fun p => (X.later (p.below.mono X.lt)).c0
  have qX1 : ∀ p : Later w8, p.val.cell? ⟨W.heap.size, 1, none⟩ = some (.int .i64 (ep)) := fun p => (X.later (p.below.mono X.lt)).c1
  have qX2 : ∀ p : Later w8, p.val.cell? ⟨W.heap.size, 2, none⟩ = some (.int .i64 (ser)) := fun p => (X.later (p.below.mono X.lt)).c2
  have qX3 : ∀ p : Later w8, p.val.cell? ⟨W.heap.size, 3, none⟩ = some (.int .i64 (siz)) := fun p => (X.later (p.below.mono X.lt)).c3
  have qX4 : ∀ p : Later w8, p.val.cell? ⟨W.heap.size, 4, none⟩ = some (.int .i64 (tail)) := fun p => (X.later (p.below.mono X.lt)).c4
  have qX5 : ∀ p : Later w8, p.val.cell? ⟨W.heap.size, 5, none⟩ = some (.int .i64 (num)) := fun p => (X.later (p.below.mono X.lt)).c5
  have qY0 : ∀ p : Later w8, p.val.cell? ⟨w5.heap.size, 0, none⟩ = some (.int .u64 ((key : Nat) : Int)) := fun p => (Y.later (p.below.mono Y.lt)).c0
  have qY1 : ∀ p : Later w8, p.val.cell? ⟨w5.heap.size, 1, none⟩ = some (.int .i64 (ep)) := fun p => (Y.later (p.below.mono Y.lt)).c1
  have qY2 : ∀ p : Later w8, p.val.cell? ⟨w5.heap.size, 2, none⟩ = some (.int .i64 (ser + 1)) := fun p => (Y.later (p.below.mono Y.lt)).c2
  have qY3 : ∀ p : Later w8, p.val.cell? ⟨w5.heap.size, 3, none⟩ = some (.int .i64 (siz)) := fun p => (Y.later (p.below.mono Y.lt)).c3
  have qY4 : ∀ p : Later w8, p.val.cell? ⟨w5.heap.size, 4, none⟩ = some (.int .i64 (a)) := fun p => (Y.later (p.below.mono Y.lt)).c4
  have qY5 : ∀ p : Later w8, p.val.cell? ⟨w5.heap.size, 5, none⟩ = some (.int .i64 (b)) := fun p => (Y.later (p.below.mono Y.lt)).c5
  go_wp2
  refine wp_region_later (by kernel_rfl) (by kernel_rfl) ?_
  (repeat (first | go_big_quiet_skip | (go_big_quiet_want; go_big_quiet_op; go_big_quiet_on)))
  (go_big_quiet_want; go_big_quiet_op; apply Exists.intro; refine ⟨fun p => ?_, ?_⟩; (· exact later_of (hS1 _)); go_big_quiet_on)
  (repeat (first | go_big_quiet_skip | (go_big_quiet_want; go_big_quiet_op; go_big_quiet_on)))
  (go_big_quiet_want; go_big_quiet_op; apply Exists.intro; refine ⟨fun p => ?_, ?_⟩; (· exact later_of (hS2 _)); go_big_quiet_on)
  (repeat (first | go_big_quiet_skip | (go_big_quiet_want; go_big_quiet_op; go_big_quiet_on)))
  refine wpQuiet_nil ?_
  rintro _ ⟨p9, rfl⟩
  replace X := X.later (p9.below.mono X.lt)
  replace D := D.later (p9.below.mono D.lt)
  replace Y := Y.later (p9.below.mono Y.lt)
  replace BB := BB.trans (p9.below.mono BB.size)
  clear hne9 qX0 qX1 qX2 qX3 qX4 qX5 qY0 qY1 qY2 qY3 qY4 qY5
  have hmk : (Instr.makeSlice 47 (.int .i64 64) (.int .i64 64)).run Tryd.prog p9.val = .ok (.slice (some ⟨p9.val.heap.size, 0, none⟩) 64 64) (p9.val.alloc (.cells (zs 64) 5)) := make_bytes (N := 64) (by omega) _
  have hcv : (convert 47 9 (.slice (some ⟨p9.val.heap.size, 0, none⟩) 64 64)).run Tryd.prog (p9.val.alloc (.cells (zs 64) 5)) = .ok (.string Z) (p9.val.alloc (.cells (zs 64) 5)) := by rw [← hZ.out]; exact conv_rep (fun i hi => by simp [zs_get hi])
  generalize hzz : zs 64 = ZZ at *
  have b10 := below_alloc p9.val (.cells ZZ 5)
  replace X := X.later (b10.mono X.lt)
  replace D := D.later (b10.mono D.lt)
  replace Y := Y.later (b10.mono Y.lt)
  replace BB := BB.trans (b10.mono BB.size)
  clear b10
  have Xc0_19 := X.c0
  have Xc1_19 := X.c1
  have Xc2_19 := X.c2
  have Xc3_19 := X.c3
  have Xc4_19 := X.c4
  have Xc5_19 := X.c5
  have XI := X.later ((below_alloc (p9.val.alloc (.cells ZZ 5)) (.cells #[.int .u64 ((key : Nat) : Int), .int .i64 (ep), .int .i64 (ser), .int .i64 (siz), .int .i64 (tail), .int .i64 (num)] 24)).mono X.lt)
  have XIc := XI.c2
  clear XI
  have b11 := below_alloc (p9.val.alloc (.cells ZZ 5)) (.cells #[.int .u64 ((key : Nat) : Int), .int .i64 (ep), .int .i64 (ser - 1), .int .i64 (siz), .int .i64 (tail), .int .i64 (num)] 24)
  have F : BoxC ((p9.val.alloc (.cells ZZ 5)).alloc (.cells #[.int .u64 ((key : Nat) : Int), .int .i64 (ep), .int .i64 (ser - 1), .int .i64 (siz), .int .i64 (tail), .int .i64 (num)] 24)) (p9.val.alloc (.cells ZZ 5)).heap.size (key) (ep) (ser - 1) (siz) (tail) (num) := boxC (p9.val.alloc (.cells ZZ 5)) (key) (ep) (ser - 1) (siz) (tail) (num) 24
  simp only [World.size_alloc] at F
  replace X := X.later (b11.mono X.lt)
  replace D := D.later (b11.mono D.lt)
  replace Y := Y.later (b11.mono Y.lt)
  replace BB := BB.trans (b11.mono BB.size)
  clear b11
  have Xc0_20 := X.c0
  have Xc1_20 := X.c1
  have Xc2_20 := X.c2
  have Xc3_20 := X.c3
  have Xc4_20 := X.c4
  have Xc5_20 := X.c5
  have Fc0_21 := F.c0
  have Fc1_21 := F.c1
  have Fc2_21 := F.c2
  have Fc3_21 := F.c3
  have Fc4_21 := F.c4
  have Fc5_21 := F.c5
  go_wp2_with fail
  refine (hE3 _ (T.later BB)).mono ?_
  rintro e w12 ⟨rfl, b12⟩
  clear Xc0_20 Xc1_20 Xc2_20 Xc3_20 Xc4_20 Xc5_20
  clear Fc0_21 Fc1_21 Fc2_21 Fc3_21 Fc4_21 Fc5_21
  clear XIc Xc0_19 Xc1_19 Xc2_19 Xc3_19 Xc4_19 Xc5_19
  replace X := X.later (b12.mono X.lt)
  replace D := D.later (b12.mono D.lt)
  replace Y := Y.later (b12.mono Y.lt)
  replace F := F.later (b12.mono F.lt)
  replace BB := BB.trans (b12.mono BB.size)
  clear b12 hmk hcv
  have Xc0_22 := X.c0
  have Xc1_22 := X.c1
  have Xc2_22 := X.c2
  have Xc3_22 := X.c3
  have Xc4_22 := X.c4
  have Xc5_22 := X.c5
  have Fc0_23 := F.c0
  have Fc1_23 := F.c1
  have Fc2_23 := F.c2
  have Fc3_23 := F.c3
  have Fc4_23 := F.c4
  have Fc5_23 := F.c5
  have zx : (F1.extract 0 32).size = 32 := by simp; omega
  have zy : (G.extract 32 64).size = 32 := by simp; omega
  clear Xc0_22 Xc1_22 Xc2_22 Xc3_22 Xc4_22 Xc5_22
  clear Fc0_23 Fc1_23 Fc2_23 Fc3_23 Fc4_23 Fc5_23
  have hneq := later_ne w12
  have Xc0_24 := X.c0
  have Xc1_24 := X.c1
  have Xc2_24 := X.c2
  have Xc3_24 := X.c3
  have Xc4_24 := X.c4
  have Xc5_24 := X.c5
  go_wp2
  refine wp_region_later (by kernel_rfl) (by kernel_rfl) ?_
  (repeat (first | go_big_quiet_skip | (go_big_quiet_want; go_big_quiet_op; go_big_quiet_on)))
  refine wpQuiet_nil ?_
  rintro _ ⟨pz, rfl⟩
  clear Xc0_24 Xc1_24 Xc2_24 Xc3_24 Xc4_24 Xc5_24
  replace X := X.later (pz.below.mono X.lt)
  replace D := D.later (pz.below.mono D.lt)
  replace Y := Y.later (pz.below.mono Y.lt)
  replace F := F.later (pz.below.mono F.lt)
  replace BB := BB.trans (pz.below.mono BB.size)
  clear hneq
  have Xc0_25 := X.c0
  have Xc1_25 := X.c1
  have Xc2_25 := X.c2
  have Xc3_25 := X.c3
  have Xc4_25 := X.c4
  have Xc5_25 := X.c5
  have b13 := below_alloc pz.val (.cells #[.string (F1.extract 0 32 ++ G.extract 32 64), .string C] 9)
  have L : R2 (pz.val.alloc (.cells #[.string (F1.extract 0 32 ++ G.extract 32 64), .string C] 9)) pz.val.heap.size (.string (F1.extract 0 32 ++ G.extract 32 64)) (.string C) := r2_new _ _ _ _
  replace X := X.later (b13.mono X.lt)
  replace D := D.later (b13.mono D.lt)
  replace Y := Y.later (b13.mono Y.lt)
  replace F := F.later (b13.mono F.lt)
  replace BB := BB.trans (b13.mono BB.size)
  clear b13
  have Xc0_26 := X.c0
  have Xc1_26 := X.c1
  have Xc2_26 := X.c2
  have Xc3_26 := X.c3
  have Xc4_26 := X.c4
  have Xc5_26 := X.c5
  have Lc0_27 := L.c0
  have Lc1_27 := L.c1
  have Xc0_28 := X.c0
  have Xc1_28 := X.c1
  have Xc2_28 := X.c2
  have Xc3_28 := X.c3
  have Xc4_28 := X.c4
  have Xc5_28 := X.c5
  go_wp2_with fail
  refine (hS1 _).mono ?_
  rintro e w14 ⟨rfl, b14⟩
  clear Xc0_28 Xc1_28 Xc2_28 Xc3_28 Xc4_28 Xc5_28
  clear Lc0_27 Lc1_27
  clear Xc0_25 Xc1_25 Xc2_25 Xc3_25 Xc4_25 Xc5_25 Xc0_26 Xc1_26 Xc2_26 Xc3_26 Xc4_26 Xc5_26
  replace X := X.later (b14.mono X.lt)
  replace D := D.later (b14.mono D.lt)
  replace Y := Y.later (b14.mono Y.lt)
  replace F := F.later (b14.mono F.lt)
  replace L := L.later (b14.mono L.lt)
  replace BB := BB.trans (b14.mono BB.size)
  clear b14 
  have Xc0_29 := X.c0
  have Xc1_29 := X.c1
  have Xc2_29 := X.c2
  have Xc3_29 := X.c3
  have Xc4_29 := X.c4
  have Xc5_29 := X.c5
  have Lc0_30 := L.c0
  have Lc1_30 := L.c1
  have b15 := below_alloc w14 (.cells #[.string C, .string (F1.extract 0 32 ++ G.extract 32 64)] 9)
  have M : R2 (w14.alloc (.cells #[.string C, .string (F1.extract 0 32 ++ G.extract 32 64)] 9)) w14.heap.size (.string C) (.string (F1.extract 0 32 ++ G.extract 32 64)) := r2_new _ _ _ _
  replace X := X.later (b15.mono X.lt)
  replace D := D.later (b15.mono D.lt)
  replace Y := Y.later (b15.mono Y.lt)
  replace F := F.later (b15.mono F.lt)
  replace L := L.later (b15.mono L.lt)
  replace BB := BB.trans (b15.mono BB.size)
  clear b15
  have Xc0_31 := X.c0
  have Xc1_31 := X.c1
  have Xc2_31 := X.c2
  have Xc3_31 := X.c3
  have Xc4_31 := X.c4
  have Xc5_31 := X.c5
  have Lc0_32 := L.c0
  have Lc1_32 := L.c1
  have Mc0_33 := M.c0
  have Mc1_33 := M.c1
  clear Xc0_31 Xc1_31 Xc2_31 Xc3_31 Xc4_31 Xc5_31
  clear Lc0_32 Lc1_32
  clear Mc0_33 Mc1_33
  clear Xc0_29 Xc1_29 Xc2_29 Xc3_29 Xc4_29 Xc5_29 Lc0_30 Lc1_30
  go_wp2
  generalize hwb : (w14.alloc (.cells #[.string C, .string (F1.extract 0 32 ++ G.extract 32 64)] 9)) = wb0 at *
  have TQ := T.later BB
  refine wp_region_specs_mid (n := 12) [.val (.slice (some ⟨w14.heap.size, 0, none⟩) 2 2), .val (.pointer (some ⟨w14.heap.size, 0, none⟩)), .val (.string C), .val (.slice (some ⟨w14.heap.size, 0, none⟩) 2 2), .val (.pointer (some ⟨w14.heap.size, 1, none⟩)), .val (.string (F1.extract 0 32 ++ G.extract 32 64)), .val (.tuple #[.agg #[.int .u64 ((key : Nat) : Int), .int .i64 (ep), .int .i64 (ser), .int .i64 (siz), .int .i64 (tail), .int .i64 (num)], .int .i64 (0), .int .i64 0]), .val (.tuple #[.agg #[.int .u64 ((key : Nat) : Int), .int .i64 (ep), .int .i64 (ser), .int .i64 (siz), .int .i64 (tail), .int .i64 (num)], .int .i64 (0), .int .i64 0]), .val (.agg #[.int .u64 ((key : Nat) : Int), .int .i64 (ep), .int .i64 (ser), .int .i64 (siz), .int .i64 (tail), .int .i64 (num)]), .val (.int .i64 (0)), .val (.int .i64 0), .nbox wb0.heap.size, .val (undef), .val (.int .i64 (0)), .val (.int .i64 0)] [.val (.slice (some ⟨w14.heap.size, 0, none⟩) 2 2), .val (.pointer (some ⟨w14.heap.size, 0, none⟩)), .val (.string C), .val (.slice (some ⟨w14.heap.size, 0, none⟩) 2 2), .val (.pointer (some ⟨w14.heap.size, 1, none⟩)), .val (.string (F1.extract 0 32 ++ G.extract 32 64)), .val (.tuple #[.agg #[.int .u64 ((key : Nat) : Int), .int .i64 (ep), .int .i64 (ser), .int .i64 (siz), .int .i64 (tail), .int .i64 (num)], .int .i64 (0), .int .i64 0]), .val (.tuple #[.agg #[.int .u64 ((key : Nat) : Int), .int .i64 (ep), .int .i64 (ser), .int .i64 (siz), .int .i64 (tail), .int .i64 (num)], .int .i64 (0), .int .i64 0]), .val (.agg #[.int .u64 ((key : Nat) : Int), .int .i64 (ep), .int .i64 (ser), .int .i64 (siz), .int .i64 (tail), .int .i64 (num)]), .val (.int .i64 (0)), .val (.int .i64 0), .sbox wb0.heap.size (key) (ep) (ser) (siz) (tail) (num), .val (undef), .val (.int .i64 (0)), .val (.int .i64 0)] (by kernel_rfl) (by kernel_rfl) rfl rfl rfl ?_ ?_ ?_ ?_
  · refine ⟨?_, ?_⟩
    · intro hp A w1 hb ho hd
      clear hp
      have e17 : A.tmps[17]?.getD undef = .slice (some ⟨w14.heap.size, 0, none⟩) 2 2 := olds_get ho 17 (by kernel_rfl)
      refine ⟨rfl, goes_value (v := .slice (some ⟨w14.heap.size, 0, none⟩) 2 2) ?_ rfl⟩
      simp [go_sem, e17]
    refine ⟨?_, ?_⟩
    · intro hp A w1 hb ho hd
      clear hp
      have e107 : A.tmps[107]?.getD undef = .slice (some ⟨w14.heap.size, 0, none⟩) 2 2 := getq (hd _ (Array.mem_of_getElem? (i := 0) rfl) rfl _ _ rfl rfl)
      refine ⟨rfl, goes_value (v := .pointer (some ⟨w14.heap.size, 0, none⟩)) ?_ rfl⟩
      simp [go_sem, e107]
    refine ⟨?_, ?_⟩
    · intro hp A w1 hb ho hd
      clear hp
      have e108 : A.tmps[108]?.getD undef = .pointer (some ⟨w14.heap.size, 0, none⟩) := getq (hd _ (Array.mem_of_getElem? (i := 0) rfl) rfl _ _ rfl rfl)
      have cz := (M.later (hb.mono M.lt)).c0
      refine ⟨rfl, goes_value (v := .string C) ?_ rfl⟩
      simp [go_sem, e108, cz]
    refine ⟨?_, ?_⟩
    · intro hp A w1 hb ho hd
      clear hp
      have e17 : A.tmps[17]?.getD undef = .slice (some ⟨w14.heap.size, 0, none⟩) 2 2 := olds_get ho 17 (by kernel_rfl)
      refine ⟨rfl, goes_value (v := .slice (some ⟨w14.heap.size, 0, none⟩) 2 2) ?_ rfl⟩
      simp [go_sem, e17]
    refine ⟨?_, ?_⟩
    · intro hp A w1 hb ho hd
      clear hp
      have e110 : A.tmps[110]?.getD undef = .slice (some ⟨w14.heap.size, 0, none⟩) 2 2 := getq (hd _ (Array.mem_of_getElem? (i := 0) rfl) rfl _ _ rfl rfl)
      refine ⟨rfl, goes_value (v := .pointer (some ⟨w14.heap.size, 1, none⟩)) ?_ rfl⟩
      simp [go_sem, e110]
    refine ⟨?_, ?_⟩
    · intro hp A w1 hb ho hd
      clear hp
      have e111 : A.tmps[111]?.getD undef = .pointer (some ⟨w14.heap.size, 1, none⟩) := getq (hd _ (Array.mem_of_getElem? (i := 0) rfl) rfl _ _ rfl rfl)
      have cz := (M.later (hb.mono M.lt)).c1
      refine ⟨rfl, goes_value (v := .string (F1.extract 0 32 ++ G.extract 32 64)) ?_ rfl⟩
      simp [go_sem, e111, cz]
    refine ⟨?_, ?_⟩
    · intro hp A w1 hb ho hd
      clear hp
      have e109 : A.tmps[109]?.getD undef = .string C := getq (hd _ (Array.mem_of_getElem? (i := 0) rfl) rfl _ _ rfl rfl)
      have e112 : A.tmps[112]?.getD undef = .string (F1.extract 0 32 ++ G.extract 32 64) := getq (hd _ (Array.mem_of_getElem? (i := 1) rfl) rfl _ _ rfl rfl)
      refine ⟨rfl, goes_call (f := 18) (args := #[.string C, .string (F1.extract 0 32 ++ G.extract 32 64)]) ?_ (hP w1 (TQ.later hb))⟩
      simp [go_sem, e109, e112]
    refine ⟨?_, ?_⟩
    · intro hp A w1 hb ho hd
      clear hp
      have e113 : A.tmps[113]?.getD undef = .tuple #[.agg #[.int .u64 ((key : Nat) : Int), .int .i64 (ep), .int .i64 (ser), .int .i64 (siz), .int .i64 (tail), .int .i64 (num)], .int .i64 (0), .int .i64 0] := getq (hd _ (Array.mem_of_getElem? (i := 0) rfl) rfl _ _ rfl rfl)
      refine ⟨rfl, goes_value (v := .tuple #[.agg #[.int .u64 ((key : Nat) : Int), .int .i64 (ep), .int .i64 (ser), .int .i64 (siz), .int .i64 (tail), .int .i64 (num)], .int .i64 (0), .int .i64 0]) ?_ rfl⟩
      simp [go_sem, e113]
    refine ⟨?_, ?_⟩
    · intro hp A w1 hb ho hd
      clear hp
      have e106 : A.tmps[106]?.getD undef = .tuple #[.agg #[.int .u64 ((key : Nat) : Int), .int .i64 (ep), .int .i64 (ser), .int .i64 (siz), .int .i64 (tail), .int .i64 (num)], .int .i64 (0), .int .i64 0] := getq (hd _ (Array.mem_of_getElem? (i := 0) rfl) rfl _ _ rfl rfl)
      refine ⟨rfl, goes_value (v := .agg #[.int .u64 ((key : Nat) : Int), .int .i64 (ep), .int .i64 (ser), .int .i64 (siz), .int .i64 (tail), .int .i64 (num)]) ?_ rfl⟩
      simp [go_sem, e106]
    refine ⟨?_, ?_⟩
    · intro hp A w1 hb ho hd
      clear hp
      have e106 : A.tmps[106]?.getD undef = .tuple #[.agg #[.int .u64 ((key : Nat) : Int), .int .i64 (ep), .int .i64 (ser), .int .i64 (siz), .int .i64 (tail), .int .i64 (num)], .int .i64 (0), .int .i64 0] := getq (hd _ (Array.mem_of_getElem? (i := 0) rfl) rfl _ _ rfl rfl)
      refine ⟨rfl, goes_value (v := .int .i64 (0)) ?_ rfl⟩
      simp [go_sem, e106]
    refine ⟨?_, ?_⟩
    · intro hp A w1 hb ho hd
      clear hp
      have e106 : A.tmps[106]?.getD undef = .tuple #[.agg #[.int .u64 ((key : Nat) : Int), .int .i64 (ep), .int .i64 (ser), .int .i64 (siz), .int .i64 (tail), .int .i64 (num)], .int .i64 (0), .int .i64 0] := getq (hd _ (Array.mem_of_getElem? (i := 0) rfl) rfl _ _ rfl rfl)
      refine ⟨rfl, goes_value (v := .int .i64 0) ?_ rfl⟩
      simp [go_sem, e106]
    refine ⟨?_, ?_⟩
    · intro hp A w1 hb ho hd
      clear hp
      refine ⟨rfl, goes_alloc (v := .pointer (some ⟨w1.heap.size, 0, none⟩)) (o := .cells #[.int .u64 ((0 : Nat) : Int), .int .i64 0, .int .i64 0, .int .i64 0, .int .i64 0, .int .i64 0] 24) ?_ ⟨_, rfl, hb.size, boxC _ 0 0 0 0 0 0 24⟩⟩
      simp [go_sem]
    refine ⟨?_, ?_⟩
    · exact fun hp => absurd hp (by decide)
    refine ⟨?_, ?_⟩
    · intro hp A w1 hb ho hd
      clear hp
      have e115 : A.tmps[115]?.getD undef = .int .i64 (0) := getq (hd _ (Array.mem_of_getElem? (i := 0) rfl) rfl _ _ rfl rfl)
      refine ⟨rfl, goes_value (v := .int .i64 (0)) ?_ rfl⟩
      simp [go_sem, e115]
    refine ⟨?_, ?_⟩
    · intro hp A w1 hb ho hd
      clear hp
      have e116 : A.tmps[116]?.getD undef = .int .i64 0 := getq (hd _ (Array.mem_of_getElem? (i := 0) rfl) rfl _ _ rfl rfl)
      refine ⟨rfl, goes_value (v := .int .i64 0) ?_ rfl⟩
      simp [go_sem, e116]
    trivial
  · refine ⟨?_, ?_⟩
    · exact not_needed (by kernel_rfl)
    refine ⟨?_, ?_⟩
    · exact not_needed (by kernel_rfl)
    refine ⟨?_, ?_⟩
    · exact not_needed (by kernel_rfl)
    refine ⟨?_, ?_⟩
    · exact not_needed (by kernel_rfl)
    refine ⟨?_, ?_⟩
    · exact not_needed (by kernel_rfl)
    refine ⟨?_, ?_⟩
    · exact not_needed (by kernel_rfl)
    refine ⟨?_, ?_⟩
    · exact not_needed (by kernel_rfl)
    refine ⟨?_, ?_⟩
    · exact not_needed (by kernel_rfl)
    refine ⟨?_, ?_⟩
    · exact not_needed (by kernel_rfl)
    refine ⟨?_, ?_⟩
    · intro hp A w1 hb ho hd
      clear hp
      have e106 : A.tmps[106]?.getD undef = .tuple #[.agg #[.int .u64 ((key : Nat) : Int), .int .i64 (ep), .int .i64 (ser), .int .i64 (siz), .int .i64 (tail), .int .i64 (num)], .int .i64 (0), .int .i64 0] := getq (hd _ (Array.mem_of_getElem? (i := 0) rfl) rfl _ _ rfl rfl)
      refine ⟨rfl, goes_value (v := .int .i64 (0)) ?_ rfl⟩
      simp [go_sem, e106]
    refine ⟨?_, ?_⟩
    · intro hp A w1 hb ho hd
      clear hp
      have e106 : A.tmps[106]?.getD undef = .tuple #[.agg #[.int .u64 ((key : Nat) : Int), .int .i64 (ep), .int .i64 (ser), .int .i64 (siz), .int .i64 (tail), .int .i64 (num)], .int .i64 (0), .int .i64 0] := getq (hd _ (Array.mem_of_getElem? (i := 0) rfl) rfl _ _ rfl rfl)
      refine ⟨rfl, goes_value (v := .int .i64 0) ?_ rfl⟩
      simp [go_sem, e106]
    refine ⟨?_, ?_⟩
    · exact not_needed (by kernel_rfl)
    refine ⟨?_, ?_⟩
    · exact not_needed (by kernel_rfl)
    refine ⟨?_, ?_⟩
    · intro hp A w1 hb ho hd
      clear hp
      have e115 : A.tmps[115]?.getD undef = .int .i64 (0) := getq (hd _ (Array.mem_of_getElem? (i := 0) rfl) rfl _ _ rfl rfl)
      refine ⟨rfl, goes_value (v := .int .i64 (0)) ?_ rfl⟩
      simp [go_sem, e115]
    refine ⟨?_, ?_⟩
    · intro hp A w1 hb ho hd
      clear hp
      have e116 : A.tmps[116]?.getD undef = .int .i64 0 := getq (hd _ (Array.mem_of_getElem? (i := 0) rfl) rfl _ _ rfl rfl)
      refine ⟨rfl, goes_value (v := .int .i64 0) ?_ rfl⟩
      simp [go_sem, e116]
    trivial
  · intro A w2 hb ho hd
    obtain ⟨g, hg, hge, Zb⟩ := hd _ (Array.mem_of_getElem? (i := 0) rfl) rfl _ _ rfl rfl
    have e18 := getq hg
    have eV : A.tmps[114]?.getD undef = .agg #[.int .u64 ((key : Nat) : Int), .int .i64 (ep), .int .i64 (ser), .int .i64 (siz), .int .i64 (tail), .int .i64 (num)] := getq (hd _ (Array.mem_of_getElem? (i := 1) rfl) rfl _ _ rfl rfl)
    have zc0 := Zb.c0
    have zc1 := Zb.c1
    have zc2 := Zb.c2
    have zc3 := Zb.c3
    have zc4 := Zb.c4
    have zc5 := Zb.c5
    have zf0 := Zb.fr 0 (by omega)
    have zf1 := Zb.fr 1 (by omega)
    have zf2 := Zb.fr 2 (by omega)
    have zf3 := Zb.fr 3 (by omega)
    have zf4 := Zb.fr 4 (by omega)
    have zf5 := Zb.fr 5 (by omega)
    refine ⟨_, by simp [go_sem, e18, eV, zc0, zc1, zc2, zc3, zc4, zc5, zf0, zf1, zf2, zf3, zf4, zf5]; rfl, ?_, ?_⟩
    · exact BoxC.below Zb hb hge (key) (ep) (ser) (siz) (tail) (num)
    · intro j o d hj hdst h
      match j, hj, hdst, h with
      | 0, _, _, h => exact h
      | 1, _, _, h => exact h
      | 2, _, _, h => exact h
      | 3, _, _, h => exact h
      | 4, _, _, h => exact h
      | 5, _, _, h => exact h
      | 6, _, _, h => exact h
      | 7, _, _, h => exact h
      | 8, _, _, h => exact h
      | 9, _, _, h => exact h
      | 10, _, _, h => exact h
      | 11, hj, hdst, _ =>
        cases hj
        cases hdst
        exact ⟨g, hg, hge, Zb.put (key) (ep) (ser) (siz) (tail) (num)⟩
      | 12, _, _, h => exact h
      | 13, _, _, h => exact h
      | 14, _, _, h => exact h
      | j + 15, hj, _, _ => simp at hj
  intro A w9 hb9 hdf hsz hol hft
  obtain ⟨gx, hgx, hgxe, XN⟩ := hft 11 _ 18 rfl rfl
  have m107 : A.tmps.getD 107 undef = .slice (some ⟨w14.heap.size, 0, none⟩) 2 2 := hft 0 _ 107 rfl rfl
  have m108 : A.tmps.getD 108 undef = .pointer (some ⟨w14.heap.size, 0, none⟩) := hft 1 _ 108 rfl rfl
  have m109 : A.tmps.getD 109 undef = .string C := hft 2 _ 109 rfl rfl
  have m110 : A.tmps.getD 110 undef = .slice (some ⟨w14.heap.size, 0, none⟩) 2 2 := hft 3 _ 110 rfl rfl
  have m111 : A.tmps.getD 111 undef = .pointer (some ⟨w14.heap.size, 1, none⟩) := hft 4 _ 111 rfl rfl
  have m112 : A.tmps.getD 112 undef = .string (F1.extract 0 32 ++ G.extract 32 64) := hft 5 _ 112 rfl rfl
  have m113 : A.tmps.getD 113 undef = .tuple #[.agg #[.int .u64 ((key : Nat) : Int), .int .i64 (ep), .int .i64 (ser), .int .i64 (siz), .int .i64 (tail), .int .i64 (num)], .int .i64 (0), .int .i64 0] := hft 6 _ 113 rfl rfl
  have m106 : A.tmps.getD 106 undef = .tuple #[.agg #[.int .u64 ((key : Nat) : Int), .int .i64 (ep), .int .i64 (ser), .int .i64 (siz), .int .i64 (tail), .int .i64 (num)], .int .i64 (0), .int .i64 0] := hft 7 _ 106 rfl rfl
  have m114 : A.tmps.getD 114 undef = .agg #[.int .u64 ((key : Nat) : Int), .int .i64 (ep), .int .i64 (ser), .int .i64 (siz), .int .i64 (tail), .int .i64 (num)] := hft 8 _ 114 rfl rfl
  have m115 : A.tmps.getD 115 undef = .int .i64 (0) := hft 9 _ 115 rfl rfl
  have m116 : A.tmps.getD 116 undef = .int .i64 0 := hft 10 _ 116 rfl rfl
  have m19 : A.tmps.getD 19 undef = .int .i64 (0) := hft 13 _ 19 rfl rfl
  have m20 : A.tmps.getD 20 undef = .int .i64 0 := hft 14 _ 20 rfl rfl
  rename_i KK hKK
  refine hKK _ _ ?_
  show Code.wp _ _ _ A w9
  rw [frame_puts hdf hsz hol]
  simp only [List.foldl_cons, List.foldl_nil, Act.put, Option.getD_some, m107, m108, m109, m110, m111, m112, m113, m106, m114, m115, m116, m19, m20, hgx, List.setIfInBounds_toArray, List.set_cons_succ, List.set_cons_zero]
  clear m107 m108 m109 m110 m111 m112 m113 m106 m114 m115 m116 m19 m20 hft hol hsz hdf hKK hgx
  replace X := X.later (hb9.mono X.lt)
  replace D := D.later (hb9.mono D.lt)
  replace Y := Y.later (hb9.mono Y.lt)
  replace F := F.later (hb9.mono F.lt)
  replace L := L.later (hb9.mono L.lt)
  replace M := M.later (hb9.mono M.lt)
  replace BB := BB.trans (hb9.mono BB.size)
  have XNc0_34 := XN.c0
  have XNc1_34 := XN.c1
  have XNc2_34 := XN.c2
  have XNc3_34 := XN.c3
  have XNc4_34 := XN.c4
  have XNc5_34 := XN.c5
  have Xc0_35 := X.c0
  have Xc1_35 := X.c1
  have Xc2_35 := X.c2
  have Xc3_35 := X.c3
  have Xc4_35 := X.c4
  have Xc5_35 := X.c5
  have Yc0_36 := Y.c0
  have Yc1_36 := Y.c1
  have Yc2_36 := Y.c2
  have Yc3_36 := Y.c3
  have Yc4_36 := Y.c4
  have Yc5_36 := Y.c5
  go_wp2_with fail
  refine (hSx _).mono ?_
  rintro e w16 ⟨rfl, b16⟩
  clear XNc0_34 XNc1_34 XNc2_34 XNc3_34 XNc4_34 XNc5_34
  clear Xc0_35 Xc1_35 Xc2_35 Xc3_35 Xc4_35 Xc5_35
  clear Yc0_36 Yc1_36 Yc2_36 Yc3_36 Yc4_36 Yc5_36
  replace X := X.later (b16.mono X.lt)
  replace D := D.later (b16.mono D.lt)
  replace Y := Y.later (b16.mono Y.lt)
  replace F := F.later (b16.mono F.lt)
  replace L := L.later (b16.mono L.lt)
  replace M := M.later (b16.mono M.lt)
  replace XN := XN.later (b16.mono XN.lt)
  replace BB := BB.trans (b16.mono BB.size)
  clear b16 
  have XNc0_37 := XN.c0
  have XNc1_37 := XN.c1
  have XNc2_37 := XN.c2
  have XNc3_37 := XN.c3
  have XNc4_37 := XN.c4
  have XNc5_37 := XN.c5
  have Xc0_38 := X.c0
  have Xc1_38 := X.c1
  have Xc2_38 := X.c2
  have Xc3_38 := X.c3
  have Xc4_38 := X.c4
  have Xc5_38 := X.c5
  have Yc0_39 := Y.c0
  have Yc1_39 := Y.c1
  have Yc2_39 := Y.c2
  have Yc3_39 := Y.c3
  have Yc4_39 := Y.c4
  have Yc5_39 := Y.c5
  go_wp2_with fail
  refine (awake_any _ (T.later BB)).mono ?_
  rintro e w17 ⟨rfl, b17⟩
  clear XNc0_37 XNc1_37 XNc2_37 XNc3_37 XNc4_37 XNc5_37
  clear Xc0_38 Xc1_38 Xc2_38 Xc3_38 Xc4_38 Xc5_38
  clear Yc0_39 Yc1_39 Yc2_39 Yc3_39 Yc4_39 Yc5_39
  replace X := X.later (b17.mono X.lt)
  replace D := D.later (b17.mono D.lt)
  replace Y := Y.later (b17.mono Y.lt)
  replace F := F.later (b17.mono F.lt)
  replace L := L.later (b17.mono L.lt)
  replace M := M.later (b17.mono M.lt)
  replace XN := XN.later (b17.mono XN.lt)
  replace BB := BB.trans (b17.mono BB.size)
  clear b17 
  have XNc0_40 := XN.c0
  have XNc1_40 := XN.c1
  have XNc2_40 := XN.c2
  have XNc3_40 := XN.c3
  have XNc4_40 := XN.c4
  have XNc5_40 := XN.c5
  have Xc0_41 := X.c0
  have Xc1_41 := X.c1
  have Xc2_41 := X.c2
  have Xc3_41 := X.c3
  have Xc4_41 := X.c4
  have Xc5_41 := X.c5
  have Yc0_42 := Y.c0
  have Yc1_42 := Y.c1
  have Yc2_42 := Y.c2
  have Yc3_42 := Y.c3
  have Yc4_42 := Y.c4
  have Yc5_42 := Y.c5
  go_wp2
  go_ret
  exact ⟨rfl, BB⟩

set_option maxRecDepth 100000 in
set_option maxHeartbeats 16000000 in
theorem torn_p21 (key : Nat) (ep ser siz tail num a b : Int) (l1 : ser < 1099511627776) (l0 : 0 < ser) (C F1 Z : ByteArray) (G : ByteArray) (zF : F1.size = 64) (_zC : C.size = 64) (_zZ : Z.size = 64) (zG : G.size = 64)
    (hPl : ∀ w, Calls Tryd.prog 10 #[.agg #[.int .u64 ((key : Nat) : Int), .int .i64 (ep), .int .i64 (ser), .int .i64 (siz), .int .i64 (tail), .int .i64 (num)]] w fun e w' => e = .returned (.agg #[.int .u64 ((key : Nat) : Int), .int .i64 (ep), .int .i64 (ser), .int .i64 (siz), .int .i64 (tail), .int .i64 (num)]) ∧ Below w.heap.size w w')
    (hRc : ∀ w, Calls Tryd.prog 9 #[.agg #[.int .u64 ((key : Nat) : Int), .int .i64 (ep), .int .i64 (ser), .int .i64 (siz), .int .i64 (tail), .int .i64 (num)]] w fun e w' => e = .returned (.int .i64 0) ∧ Below w.heap.size w w')
    (hN : ∀ w, Calls Tryd.prog 20 #[.agg #[.int .u64 ((key : Nat) : Int), .int .i64 (ep), .int .i64 (ser), .int .i64 (siz), .int .i64 (tail), .int .i64 (num)], .int .i64 a, .int .i64 b] w fun e w' => e = .returned (.tuple #[.agg #[.int .u64 ((key : Nat) : Int), .int .i64 (ep), .int .i64 (ser + 1), .int .i64 (siz), .int .i64 (a), .int .i64 (b)], .int .i64 0]) ∧ Below w.heap.size w w')
    (hE1 : ∀ w, Tab w → Calls Tryd.prog 11 #[.agg #[.int .u64 ((key : Nat) : Int), .int .i64 (ep), .int .i64 (ser), .int .i64 (siz), .int .i64 (tail), .int .i64 (num)]] w fun e w' => e = .returned (.tuple #[.string C, .int .i64 0]) ∧ Below w.heap.size w w')
    (hE2 : ∀ w, Tab w → Calls Tryd.prog 11 #[.agg #[.int .u64 ((key : Nat) : Int), .int .i64 (ep), .int .i64 (ser + 1), .int .i64 (siz), .int .i64 (a), .int .i64 (b)]] w fun e w' => e = .returned (.tuple #[.string F1, .int .i64 0]) ∧ Below w.heap.size w w')
    (hS1 : ∀ w, Calls Tryd.prog 15 #[.agg #[.int .u64 ((key : Nat) : Int), .int .i64 (ep), .int .i64 (ser), .int .i64 (siz), .int .i64 (tail), .int .i64 (num)]] w fun e w' => e = .returned (.int .i64 1) ∧ Below w.heap.size w w')
    (hS2 : ∀ w, Calls Tryd.prog 15 #[.agg #[.int .u64 ((key : Nat) : Int), .int .i64 (ep), .int .i64 (ser + 1), .int .i64 (siz), .int .i64 (a), .int .i64 (b)]] w fun e w' => e = .returned (.int .i64 0) ∧ Below w.heap.size w w')
    (hP : ∀ w, Tab w → Calls Tryd.prog 18 #[.string (F1.extract 0 32 ++ G.extract 32 64), .string C] w fun e w' => e = .returned (.tuple #[.agg #[.int .u64 ((key : Nat) : Int), .int .i64 (ep), .int .i64 (ser), .int .i64 (siz), .int .i64 (tail), .int .i64 (num)], .int .i64 (1), .int .i64 0]) ∧ Below w.heap.size w w')
    (hSx : ∀ w, Calls Tryd.prog 15 #[.agg #[.int .u64 ((key : Nat) : Int), .int .i64 (ep), .int .i64 (ser), .int .i64 (siz), .int .i64 (tail), .int .i64 (num)]] w fun e w' => e = .returned (.int .i64 (1)) ∧ Below w.heap.size w w')
    (hZ : Hid (str (List.replicate 64 0) = Z))
    (hE3 : ∀ w, Tab w → Calls Tryd.prog 11 #[.agg #[.int .u64 ((key : Nat) : Int), .int .i64 (ep), .int .i64 (ser - 1), .int .i64 (siz), .int .i64 (tail), .int .i64 (num)]] w fun e w' => e = .returned (.tuple #[.string G, .int .i64 0]) ∧ Below w.heap.size w w')
    (W : World) (T : Tab W) : Calls Tryd.prog 7 #[.agg #[.int .u64 ((key : Nat) : Int), .int .i64 (ep), .int .i64 (ser), .int .i64 (siz), .int .i64 (tail), .int .i64 (num)], .agg #[.int .i64 a, .int .i64 b], .int .i64 2] W fun e w' => e = .returned (.bool true) ∧ Below W.heap.size W w' := by
  have BB := Below.refl W.heap.size W
  have b1 := below_alloc W (.cells #[.int .u64 ((key : Nat) : Int), .int .i64 (ep), .int .i64 (ser), .int .i64 (siz), .int .i64 (tail), .int .i64 (num)] 24)
  have X : BoxC (W.alloc (.cells #[.int .u64 ((key : Nat) : Int), .int .i64 (ep), .int .i64 (ser), .int .i64 (siz), .int .i64 (tail), .int .i64 (num)] 24)) W.heap.size (key) (ep) (ser) (siz) (tail) (num) := boxC W (key) (ep) (ser) (siz) (tail) (num) 24
  replace BB := BB.trans (b1.mono BB.size)
  clear b1
  have Xc0_1 := X.c0
  have Xc1_1 := X.c1
  have Xc2_1 := X.c2
  have Xc3_1 := X.c3
  have Xc4_1 := X.c4
  have Xc5_1 := X.c5
  have b2 := below_alloc (W.alloc (.cells #[.int .u64 ((key : Nat) : Int), .int .i64 (ep), .int .i64 (ser), .int .i64 (siz), .int .i64 (tail), .int .i64 (num)] 24)) (.cells #[.int .i64 a, .int .i64 b] 49)
  have D : R2 ((W.alloc (.cells #[.int .u64 ((key : Nat) : Int), .int .i64 (ep), .int .i64 (ser), .int .i64 (siz), .int .i64 (tail), .int .i64 (num)] 24)).alloc (.cells #[.int .i64 a, .int .i64 b] 49)) (W.alloc (.cells #[.int .u64 ((key : Nat) : Int), .int .i64 (ep), .int .i64 (ser), .int .i64 (siz), .int .i64 (tail), .int .i64 (num)] 24)).heap.size (.int .i64 a) (.int .i64 b) := r2_new _ _ _ _
  simp only [World.size_alloc] at D
  replace X := X.later (b2.mono X.lt)
  replace BB := BB.trans (b2.mono BB.size)
  clear b2
  have Xc0_2 := X.c0
  have Xc1_2 := X.c1
  have Xc2_2 := X.c2
  have Xc3_2 := X.c3
  have Xc4_2 := X.c4
  have Xc5_2 := X.c5
  have Dc0_3 := D.c0
  have Dc1_3 := D.c1
  go_enter Tryd.func7, Tryd.ntmps7
  go_wp2_with fail
  refine (hPl _).mono ?_
  rintro e w3 ⟨rfl, b3⟩
  clear Xc0_2 Xc1_2 Xc2_2 Xc3_2 Xc4_2 Xc5_2
  clear Dc0_3 Dc1_3
  clear Xc0_1 Xc1_1 Xc2_1 Xc3_1 Xc4_1 Xc5_1
  replace X := X.later (b3.mono X.lt)
  replace D := D.later (b3.mono D.lt)
  replace BB := BB.trans (b3.mono BB.size)
  clear b3 
  have Xc0_4 := X.c0
  have Xc1_4 := X.c1
  have Xc2_4 := X.c2
  have Xc3_4 := X.c3
  have Xc4_4 := X.c4
  have Xc5_4 := X.c5
  have Dc0_5 := D.c0
  have Dc1_5 := D.c1
  go_wp2_with fail
  refine (hRc _).mono ?_
  rintro e w4 ⟨rfl, b4⟩
  clear Xc0_4 Xc1_4 Xc2_4 Xc3_4 Xc4_4 Xc5_4
  clear Dc0_5 Dc1_5
  replace X := X.later (b4.mono X.lt)
  replace D := D.later (b4.mono D.lt)
  replace BB := BB.trans (b4.mono BB.size)
  clear b4 
  have Xc0_6 := X.c0
  have Xc1_6 := X.c1
  have Xc2_6 := X.c2
  have Xc3_6 := X.c3
  have Xc4_6 := X.c4
  have Xc5_6 := X.c5
  have Dc0_7 := D.c0
  have Dc1_7 := D.c1
  go_wp2_with fail
  refine (hN _).mono ?_
  rintro e w5 ⟨rfl, b5⟩
  clear Xc0_6 Xc1_6 Xc2_6 Xc3_6 Xc4_6 Xc5_6
  clear Dc0_7 Dc1_7
  replace X := X.later (b5.mono X.lt)
  replace D := D.later (b5.mono D.lt)
  replace BB := BB.trans (b5.mono BB.size)
  clear b5 
  have Xc0_8 := X.c0
  have Xc1_8 := X.c1
  have Xc2_8 := X.c2
  have Xc3_8 := X.c3
  have Xc4_8 := X.c4
  have Xc5_8 := X.c5
  have Dc0_9 := D.c0
  have Dc1_9 := D.c1
  have b6 := below_alloc w5 (.cells #[.int .u64 ((key : Nat) : Int), .int .i64 (ep), .int .i64 (ser + 1), .int .i64 (siz), .int .i64 (a), .int .i64 (b)] 24)
  have Y : BoxC (w5.alloc (.cells #[.int .u64 ((key : Nat) : Int), .int .i64 (ep), .int .i64 (ser + 1), .int .i64 (siz), .int .i64 (a), .int .i64 (b)] 24)) w5.heap.size (key) (ep) (ser + 1) (siz) (a) (b) := boxC w5 (key) (ep) (ser + 1) (siz) (a) (b) 24
  replace X := X.later (b6.mono X.lt)
  replace D := D.later (b6.mono D.lt)
  replace BB := BB.trans (b6.mono BB.size)
  clear b6
  have Xc0_10 := X.c0
  have Xc1_10 := X.c1
  have Xc2_10 := X.c2
  have Xc3_10 := X.c3
  have Xc4_10 := X.c4
  have Xc5_10 := X.c5
  have Dc0_11 := D.c0
  have Dc1_11 := D.c1
  have Yc0_12 := Y.c0
  have Yc1_12 := Y.c1
  have Yc2_12 := Y.c2
  have Yc3_12 := Y.c3
  have Yc4_12 := Y.c4
  have Yc5_12 := Y.c5
  go_wp2_with fail
  refine (hE1 _ (T.later BB)).mono ?_
  rintro e w7 ⟨rfl, b7⟩
  clear Xc0_10 Xc1_10 Xc2_10 Xc3_10 Xc4_10 Xc5_10
  clear Dc0_11 Dc1_11
  clear Yc0_12 Yc1_12 Yc2_12 Yc3_12 Yc4_12 Yc5_12
  clear Xc0_8 Xc1_8 Xc2_8 Xc3_8 Xc4_8 Xc5_8 Dc0_9 Dc1_9
  replace X := X.later (b7.mono X.lt)
  replace D := D.later (b7.mono D.lt)
  replace Y := Y.later (b7.mono Y.lt)
  replace BB := BB.trans (b7.mono BB.size)
  clear b7 
  have Xc0_13 := X.c0
  have Xc1_13 := X.c1
  have Xc2_13 := X.c2
  have Xc3_13 := X.c3
  have Xc4_13 := X.c4
  have Xc5_13 := X.c5
  have Dc0_14 := D.c0
  have Dc1_14 := D.c1
  have Yc0_15 := Y.c0
  have Yc1_15 := Y.c1
  have Yc2_15 := Y.c2
  have Yc3_15 := Y.c3
  have Yc4_15 := Y.c4
  have Yc5_15 := Y.c5
  go_wp2_with fail
  refine (hE2 _ (T.later BB)).mono ?_
  rintro e w8 ⟨rfl, b8⟩
  clear Xc0_13 Xc1_13 Xc2_13 Xc3_13 Xc4_13 Xc5_13
  clear Dc0_14 Dc1_14
  clear Yc0_15 Yc1_15 Yc2_15 Yc3_15 Yc4_15 Yc5_15
  replace X := X.later (b8.mono X.lt)
  replace D := D.later (b8.mono D.lt)
  replace Y := Y.later (b8.mono Y.lt)
  replace BB := BB.trans (b8.mono BB.size)
  clear b8 
  have Xc0_16 := X.c0
  have Xc1_16 := X.c1
  have Xc2_16 := X.c2
  have Xc3_16 := X.c3
  have Xc4_16 := X.c4
  have Xc5_16 := X.c5
  have Dc0_17 := D.c0
  have Dc1_17 := D.c1
  have Yc0_18 := Y.c0
  have Yc1_18 := Y.c1
  have Yc2_18 := Y.c2
  have Yc3_18 := Y.c3
  have Yc4_18 := Y.c4
  have Yc5_18 := Y.c5
  clear Xc0_16 Xc1_16 Xc2_16 Xc3_16 Xc4_16 Xc5_16
  clear Dc0_17 Dc1_17
  clear Yc0_18 Yc1_18 Yc2_18 Yc3_18 Yc4_18 Yc5_18
  have hne9 := later_ne w8
  have qX0 : ∀ p : Later w8, p.val.cell? ⟨W.heap.size, 0, none⟩ = some (.int .u64 ((key : Nat) : Int)) := fun p => (X.later (p.below.mono X.lt)).c0
  have qX1 : ∀ p : Later w8, p.val.cell? ⟨W.heap.size, 1, none⟩ = some (.int .i64 (ep)) := fun p => (X.later (p.below.mono X.lt)).c1
  have qX2 : ∀ p : Later w8, p.val.cell? ⟨W.heap.size, 2, none⟩ = some (.int .i64 (ser)) := fun p => (X.later (p.below.mono X.lt)).c2
  have qX3 : ∀ p : Later w8, p.val.cell? ⟨W.heap.size, 3, none⟩ = some (.int .i64 (siz)) := fun p => (X.later (p.below.mono X.lt)).c3
  have qX4 : ∀ p : Later w8, p.val.cell? ⟨W.heap.size, 4, none⟩ = some (.int .i64 (tail)) := fun p => (X.later (p.below.mono X.lt)).c4
  have qX5 : ∀ p : Later w8, p.val.cell? ⟨W.heap.size, 5, none⟩ = some (.int .i64 (num)) := fun p => (X.later (p.below.mono X.lt)).c5
  have qY0 : ∀ p : Later w8, p.val.cell? ⟨w5.heap.size, 0, none⟩ = some (.int .u64 ((key : Nat) : Int)) := fun p => (Y.later (p.below.mono Y.lt)).c0
  have qY1 : ∀ p : Later w8, p.val.cell? ⟨w5.heap.size, 1, none⟩ = some (.int .i64 (ep)) := fun p => (Y.later (p.below.mono Y.lt)).c1
  have qY2 : ∀ p : Later w8, p.val.cell? ⟨w5.heap.size, 2, none⟩ = some (.int .i64 (ser + 1)) := fun p => (Y.later (p.below.mono Y.lt)).c2
  have qY3 : ∀ p : Later w8, p.val.cell? ⟨w5.heap.size, 3, none⟩ = some (.int .i64 (siz)) := fun p => (Y.later (p.below.mono Y.lt)).c3
  have qY4 : ∀ p : Later w8, p.val.cell? ⟨w5.heap.size, 4, none⟩ = some (.int .i64 (a)) := fun p => (Y.later (p.below.mono Y.lt)).c4
  have qY5 : ∀ p : Later w8, p.val.cell? ⟨w5.heap.size, 5, none⟩ = some (.int .i64 (b)) := fun p => (Y.later (p.below.mono Y.lt)).c5
  go_wp2
  refine wp_region_later (by kernel_rfl) (by kernel_rfl) ?_
  (repeat (first | go_big_quiet_skip | (go_big_quiet_want; go_big_quiet_op; go_big_quiet_on)))
  (go_big_quiet_want; go_big_quiet_op; apply Exists.intro; refine ⟨fun p => ?_, ?_⟩; (· exact later_of (hS1 _)); go_big_quiet_on)
  (repeat (first | go_big_quiet_skip | (go_big_quiet_want; go_big_quiet_op; go_big_quiet_on)))
  (go_big_quiet_want; go_big_quiet_op; apply Exists.intro; refine ⟨fun p => ?_, ?_⟩; (· exact later_of (hS2 _)); go_big_quiet_on)
  (repeat (first | go_big_quiet_skip | (go_big_quiet_want; go_big_quiet_op; go_big_quiet_on)))
  refine wpQuiet_nil ?_
  rintro _ ⟨p9, rfl⟩
  replace X := X.later (p9.below.mono X.lt)
  replace D := D.later (p9.below.mono D.lt)
  replace Y := Y.later (p9.below.mono Y.lt)
  replace BB := BB.trans (p9.below.mono BB.size)
  clear hne9 qX0 qX1 qX2 qX3 qX4 qX5 qY0 qY1 qY2 qY3 qY4 qY5
  have hmk : (Instr.makeSlice 47 (.int .i64 64) (.int .i64 64)).run Tryd.prog p9.val = .ok (.slice (some ⟨p9.val.heap.size, 0, none⟩) 64 64) (p9.val.alloc (.cells (zs 64) 5)) := make_bytes (N := 64) (by omega) _
  have hcv : (convert 47 9 (.slice (some ⟨p9.val.heap.size, 0, none⟩) 64 64)).run Tryd.prog (p9.val.alloc (.cells (zs 64) 5)) = .ok (.string Z) (p9.val.alloc (.cells (zs 64) 5)) := by rw [← hZ.out]; exact conv_rep (fun i hi => by simp [zs_get hi])
  generalize hzz : zs 64 = ZZ at *
  have b10 := below_alloc p9.val (.cells ZZ 5)
  replace X := X.later (b10.mono X.lt)
  replace D := D.later (b10.mono D.lt)
  replace Y := Y.later (b10.mono Y.lt)
  replace BB := BB.trans (b10.mono BB.size)
  clear b10
  have Xc0_19 := X.c0
  have Xc1_19 := X.c1
  have Xc2_19 := X.c2
  have Xc3_19 := X.c3
  have Xc4_19 := X.c4
  have Xc5_19 := X.c5
  have XI := X.later ((below_alloc (p9.val.alloc (.cells ZZ 5)) (.cells #[.int .u64 ((key : Nat) : Int), .int .i64 (ep), .int .i64 (ser), .int .i64 (siz), .int .i64 (tail), .int .i64 (num)] 24)).mono X.lt)
  have XIc := XI.c2
  clear XI
  have b11 := below_alloc (p9.val.alloc (.cells ZZ 5)) (.cells #[.int .u64 ((key : Nat) : Int), .int .i64 (ep), .int .i64 (ser - 1), .int .i64 (siz), .int .i64 (tail), .int .i64 (num)] 24)
  have F : BoxC ((p9.val.alloc (.cells ZZ 5)).alloc (.cells #[.int .u64 ((key : Nat) : Int), .int .i64 (ep), .int .i64 (ser - 1), .int .i64 (siz), .int .i64 (tail), .int .i64 (num)] 24)) (p9.val.alloc (.cells ZZ 5)).heap.size (key) (ep) (ser - 1) (siz) (tail) (num) := boxC (p9.val.alloc (.cells ZZ 5)) (key) (ep) (ser - 1) (siz) (tail) (num) 24
  simp only [World.size_alloc] at F
  replace X := X.later (b11.mono X.lt)
  replace D := D.later (b11.mono D.lt)
  replace Y := Y.later (b11.mono Y.lt)
  replace BB := BB.trans (b11.mono BB.size)
  clear b11
  have Xc0_20 := X.c0
  have Xc1_20 := X.c1
  have Xc2_20 := X.c2
  have Xc3_20 := X.c3
  have Xc4_20 := X.c4
  have Xc5_20 := X.c5
  have Fc0_21 := F.c0
  have Fc1_21 := F.c1
  have Fc2_21 := F.c2
  have Fc3_21 := F.c3
  have Fc4_21 := F.c4
  have Fc5_21 := F.c5
  go_wp2_with fail
  refine (hE3 _ (T.later BB)).mono ?_
  rintro e w12 ⟨rfl, b12⟩
  clear Xc0_20 Xc1_20 Xc2_20 Xc3_20 Xc4_20 Xc5_20
  clear Fc0_21 Fc1_21 Fc2_21 Fc3_21 Fc4_21 Fc5_21
  clear XIc Xc0_19 Xc1_19 Xc2_19 Xc3_19 Xc4_19 Xc5_19
  replace X := X.later (b12.mono X.lt)
  replace D := D.later (b12.mono D.lt)
  replace Y := Y.later (b12.mono Y.lt)
  replace F := F.later (b12.mono F.lt)
  replace BB := BB.trans (b12.mono BB.size)
  clear b12 hmk hcv
  have Xc0_22 := X.c0
  have Xc1_22 := X.c1
  have Xc2_22 := X.c2
  have Xc3_22 := X.c3
  have Xc4_22 := X.c4
  have Xc5_22 := X.c5
  have Fc0_23 := F.c0
  have Fc1_23 := F.c1
  have Fc2_23 := F.c2
  have Fc3_23 := F.c3
  have Fc4_23 := F.c4
  have Fc5_23 := F.c5
  have zx : (F1.extract 0 32).size = 32 := by simp; omega
  have zy : (G.extract 32 64).size = 32 := by simp; omega
  clear Xc0_22 Xc1_22 Xc2_22 Xc3_22 Xc4_22 Xc5_22
  clear Fc0_23 Fc1_23 Fc2_23 Fc3_23 Fc4_23 Fc5_23
  have hneq := later_ne w12
  have Xc0_24 := X.c0
  have Xc1_24 := X.c1
  have Xc2_24 := X.c2
  have Xc3_24 := X.c3
  have Xc4_24 := X.c4
  have Xc5_24 := X.c5
  go_wp2
  refine wp_region_later (by kernel_rfl) (by kernel_rfl) ?_
  (repeat (first | go_big_quiet_skip | (go_big_quiet_want; go_big_quiet_op; go_big_quiet_on)))
  refine wpQuiet_nil ?_
  rintro _ ⟨pz, rfl⟩
  clear Xc0_24 Xc1_24 Xc2_24 Xc3_24 Xc4_24 Xc5_24
  replace X := X.later (pz.below.mono X.lt)
  replace D := D.later (pz.below.mono D.lt)
  replace Y := Y.later (pz.below.mono Y.lt)
  replace F := F.later (pz.below.mono F.lt)
  replace BB := BB.trans (pz.below.mono BB.size)
  clear hneq
  have Xc0_25 := X.c0
  have Xc1_25 := X.c1
  have Xc2_25 := X.c2
  have Xc3_25 := X.c3
  have Xc4_25 := X.c4
  have Xc5_25 := X.c5
  have b13 := below_alloc pz.val (.cells #[.string (F1.extract 0 32 ++ G.extract 32 64), .string C] 9)
  have L : R2 (pz.val.alloc (.cells #[.string (F1.extract 0 32 ++ G.extract 32 64), .string C] 9)) pz.val.heap.size (.string (F1.extract 0 32 ++ G.extract 32 64)) (.string C) := r2_new _ _ _ _
  replace X := X.later (b13.mono X.lt)
  replace D := D.later (b13.mono D.lt)
  replace Y := Y.later (b13.mono Y.lt)
  replace F := F.later (b13.mono F.lt)
  replace BB := BB.trans (b13.mono BB.size)
  clear b13
  have Xc0_26 := X.c0
  have Xc1_26 := X.c1
  have Xc2_26 := X.c2
  have Xc3_26 := X.c3
  have Xc4_26 := X.c4
  have Xc5_26 := X.c5
  have Lc0_27 := L.c0
  have Lc1_27 := L.c1
  have Xc0_28 := X.c0
  have Xc1_28 := X.c1
  have Xc2_28 := X.c2
  have Xc3_28 := X.c3
  have Xc4_28 := X.c4
  have Xc5_28 := X.c5
  go_wp2_with fail
  refine (hS1 _).mono ?_
  rintro e w14 ⟨rfl, b14⟩
  clear Xc0_28 Xc1_28 Xc2_28 Xc3_28 Xc4_28 Xc5_28
  clear Lc0_27 Lc1_27
  clear Xc0_25 Xc1_25 Xc2_25 Xc3_25 Xc4_25 Xc5_25 Xc0_26 Xc1_26 Xc2_26 Xc3_26 Xc4_26 Xc5_26
  replace X := X.later (b14.mono X.lt)
  replace D := D.later (b14.mono D.lt)
  replace Y := Y.later (b14.mono Y.lt)
  replace F := F.later (b14.mono F.lt)
  replace L := L.later (b14.mono L.lt)
  replace BB := BB.trans (b14.mono BB.size)
  clear b14 
  have Xc0_29 := X.c0
  have Xc1_29 := X.c1
  have Xc2_29 := X.c2
  have Xc3_29 := X.c3
  have Xc4_29 := X.c4
  have Xc5_29 := X.c5
  have Lc0_30 := L.c0
  have Lc1_30 := L.c1
  clear Xc0_29 Xc1_29 Xc2_29 Xc3_29 Xc4_29 Xc5_29
  clear Lc0_30 Lc1_30
  go_wp2
  have TQ := T.later BB
  refine wp_region_specs_mid (n := 12) [.val (.slice (some ⟨pz.val.heap.size, 0, none⟩) 2 2), .val (.pointer (some ⟨pz.val.heap.size, 0, none⟩)), .val (.string (F1.extract 0 32 ++ G.extract 32 64)), .val (.slice (some ⟨pz.val.heap.size, 0, none⟩) 2 2), .val (.pointer (some ⟨pz.val.heap.size, 1, none⟩)), .val (.string C), .val (.tuple #[.agg #[.int .u64 ((key : Nat) : Int), .int .i64 (ep), .int .i64 (ser), .int .i64 (siz), .int .i64 (tail), .int .i64 (num)], .int .i64 (1), .int .i64 0]), .val (.tuple #[.agg #[.int .u64 ((key : Nat) : Int), .int .i64 (ep), .int .i64 (ser), .int .i64 (siz), .int .i64 (tail), .int .i64 (num)], .int .i64 (1), .int .i64 0]), .val (.agg #[.int .u64 ((key : Nat) : Int), .int .i64 (ep), .int .i64 (ser), .int .i64 (siz), .int .i64 (tail), .int .i64 (num)]), .val (.int .i64 (1)), .val (.int .i64 0), .nbox w14.heap.size, .val (undef), .val (.int .i64 (1)), .val (.int .i64 0)] [.val (.slice (some ⟨pz.val.heap.size, 0, none⟩) 2 2), .val (.pointer (some ⟨pz.val.heap.size, 0, none⟩)), .val (.string (F1.extract 0 32 ++ G.extract 32 64)), .val (.slice (some ⟨pz.val.heap.size, 0, none⟩) 2 2), .val (.pointer (some ⟨pz.val.heap.size, 1, none⟩)), .val (.string C), .val (.tuple #[.agg #[.int .u64 ((key : Nat) : Int), .int .i64 (ep), .int .i64 (ser), .int .i64 (siz), .int .i64 (tail), .int .i64 (num)], .int .i64 (1), .int .i64 0]), .val (.tuple #[.agg #[.int .u64 ((key : Nat) : Int), .int .i64 (ep), .int .i64 (ser), .int .i64 (siz), .int .i64 (tail), .int .i64 (num)], .int .i64 (1), .int .i64 0]), .val (.agg #[.int .u64 ((key : Nat) : Int), .int .i64 (ep), .int .i64 (ser), .int .i64 (siz), .int .i64 (tail), .int .i64 (num)]), .val (.int .i64 (1)), .val (.int .i64 0), .sbox w14.heap.size (key) (ep) (ser) (siz) (tail) (num), .val (undef), .val (.int .i64 (1)), .val (.int .i64 0)] (by kernel_rfl) (by kernel_rfl) rfl rfl rfl ?_ ?_ ?_ ?_
  · refine ⟨?_, ?_⟩
    · intro hp A w1 hb ho hd
      clear hp
      have e17 : A.tmps[17]?.getD undef = .slice (some ⟨pz.val.heap.size, 0, none⟩) 2 2 := olds_get ho 17 (by kernel_rfl)
      refine ⟨rfl, goes_value (v := .slice (some ⟨pz.val.heap.size, 0, none⟩) 2 2) ?_ rfl⟩
      simp [go_sem, e17]
    refine ⟨?_, ?_⟩
    · intro hp A w1 hb ho hd
      clear hp
      have e107 : A.tmps[107]?.getD undef = .slice (some ⟨pz.val.heap.size, 0, none⟩) 2 2 := getq (hd _ (Array.mem_of_getElem? (i := 0) rfl) rfl _ _ rfl rfl)
      refine ⟨rfl, goes_value (v := .pointer (some ⟨pz.val.heap.size, 0, none⟩)) ?_ rfl⟩
      simp [go_sem, e107]
    refine ⟨?_, ?_⟩
    · intro hp A w1 hb ho hd
      clear hp
      have e108 : A.tmps[108]?.getD undef = .pointer (some ⟨pz.val.heap.size, 0, none⟩) := getq (hd _ (Array.mem_of_getElem? (i := 0) rfl) rfl _ _ rfl rfl)
      have cz := (L.later (hb.mono L.lt)).c0
      refine ⟨rfl, goes_value (v := .string (F1.extract 0 32 ++ G.extract 32 64)) ?_ rfl⟩
      simp [go_sem, e108, cz]
    refine ⟨?_, ?_⟩
    · intro hp A w1 hb ho hd
      clear hp
      have e17 : A.tmps[17]?.getD undef = .slice (some ⟨pz.val.heap.size, 0, none⟩) 2 2 := olds_get ho 17 (by kernel_rfl)
      refine ⟨rfl, goes_value (v := .slice (some ⟨pz.val.heap.size, 0, none⟩) 2 2) ?_ rfl⟩
      simp [go_sem, e17]
    refine ⟨?_, ?_⟩
    · intro hp A w1 hb ho hd
      clear hp
      have e110 : A.tmps[110]?.getD undef = .slice (some ⟨pz.val.heap.size, 0, none⟩) 2 2 := getq (hd _ (Array.mem_of_getElem? (i := 0) rfl) rfl _ _ rfl rfl)
      refine ⟨rfl, goes_value (v := .pointer (some ⟨pz.val.heap.size, 1, none⟩)) ?_ rfl⟩
      simp [go_sem, e110]
    refine ⟨?_, ?_⟩
    · intro hp A w1 hb ho hd
      clear hp
      have e111 : A.tmps[111]?.getD undef = .pointer (some ⟨pz.val.heap.size, 1, none⟩) := getq (hd _ (Array.mem_of_getElem? (i := 0) rfl) rfl _ _ rfl rfl)
      have cz := (L.later (hb.mono L.lt)).c1
      refine ⟨rfl, goes_value (v := .string C) ?_ rfl⟩
      simp [go_sem, e111, cz]
    refine ⟨?_, ?_⟩
    · intro hp A w1 hb ho hd
      clear hp
      have e109 : A.tmps[109]?.getD undef = .string (F1.extract 0 32 ++ G.extract 32 64) := getq (hd _ (Array.mem_of_getElem? (i := 0) rfl) rfl _ _ rfl rfl)
      have e112 : A.tmps[112]?.getD undef = .string C := getq (hd _ (Array.mem_of_getElem? (i := 1) rfl) rfl _ _ rfl rfl)
      refine ⟨rfl, goes_call (f := 18) (args := #[.string (F1.extract 0 32 ++ G.extract 32 64), .string C]) ?_ (hP w1 (TQ.later hb))⟩
      simp [go_sem, e109, e112]
    refine ⟨?_, ?_⟩
    · intro hp A w1 hb ho hd
      clear hp
      have e113 : A.tmps[113]?.getD undef = .tuple #[.agg #[.int .u64 ((key : Nat) : Int), .int .i64 (ep), .int .i64 (ser), .int .i64 (siz), .int .i64 (tail), .int .i64 (num)], .int .i64 (1), .int .i64 0] := getq (hd _ (Array.mem_of_getElem? (i := 0) rfl) rfl _ _ rfl rfl)
      refine ⟨rfl, goes_value (v := .tuple #[.agg #[.int .u64 ((key : Nat) : Int), .int .i64 (ep), .int .i64 (ser), .int .i64 (siz), .int .i64 (tail), .int .i64 (num)], .int .i64 (1), .int .i64 0]) ?_ rfl⟩
      simp [go_sem, e113]
    refine ⟨?_, ?_⟩
    · intro hp A w1 hb ho hd
      clear hp
      have e106 : A.tmps[106]?.getD undef = .tuple #[.agg #[.int .u64 ((key : Nat) : Int), .int .i64 (ep), .int .i64 (ser), .int .i64 (siz), .int .i64 (tail), .int .i64 (num)], .int .i64 (1), .int .i64 0] := getq (hd _ (Array.mem_of_getElem? (i := 0) rfl) rfl _ _ rfl rfl)
      refine ⟨rfl, goes_value (v := .agg #[.int .u64 ((key : Nat) : Int), .int .i64 (ep), .int .i64 (ser), .int .i64 (siz), .int .i64 (tail), .int .i64 (num)]) ?_ rfl⟩
      simp [go_sem, e106]
    refine ⟨?_, ?_⟩
    · intro hp A w1 hb ho hd
      clear hp
      have e106 : A.tmps[106]?.getD undef = .tuple #[.agg #[.int .u64 ((key : Nat) : Int), .int .i64 (ep), .int .i64 (ser), .int .i64 (siz), .int .i64 (tail), .int .i64 (num)], .int .i64 (1), .int .i64 0] := getq (hd _ (Array.mem_of_getElem? (i := 0) rfl) rfl _ _ rfl rfl)
      refine ⟨rfl, goes_value (v := .int .i64 (1)) ?_ rfl⟩
      simp [go_sem, e106]
    refine ⟨?_, ?_⟩
    · intro hp A w1 hb ho hd
      clear hp
      have e106 : A.tmps[106]?.getD undef = .tuple #[.agg #[.int .u64 ((key : Nat) : Int), .int .i64 (ep), .int .i64 (ser), .int .i64 (siz), .int .i64 (tail), .int .i64 (num)], .int .i64 (1), .int .i64 0] := getq (hd _ (Array.mem_of_getElem? (i := 0) rfl) rfl _ _ rfl rfl)
      refine ⟨rfl, goes_value (v := .int .i64 0) ?_ rfl⟩
      simp [go_sem, e106]
    refine ⟨?_, ?_⟩
    · intro hp A w1 hb ho hd
      clear hp
      refine ⟨rfl, goes_alloc (v := .pointer (some ⟨w1.heap.size, 0, none⟩)) (o := .cells #[.int .u64 ((0 : Nat) : Int), .int .i64 0, .int .i64 0, .int .i64 0, .int .i64 0, .int .i64 0] 24) ?_ ⟨_, rfl, hb.size, boxC _ 0 0 0 0 0 0 24⟩⟩
      simp [go_sem]
    refine ⟨?_, ?_⟩
    · exact fun hp => absurd hp (by decide)
    refine ⟨?_, ?_⟩
    · intro hp A w1 hb ho hd
      clear hp
      have e115 : A.tmps[115]?.getD undef = .int .i64 (1) := getq (hd _ (Array.mem_of_getElem? (i := 0) rfl) rfl _ _ rfl rfl)
      refine ⟨rfl, goes_value (v := .int .i64 (1)) ?_ rfl⟩
      simp [go_sem, e115]
    refine ⟨?_, ?_⟩
    · intro hp A w1 hb ho hd
      clear hp
      have e116 : A.tmps[116]?.getD undef = .int .i64 0 := getq (hd _ (Array.mem_of_getElem? (i := 0) rfl) rfl _ _ rfl rfl)
      refine ⟨rfl, goes_value (v := .int .i64 0) ?_ rfl⟩
      simp [go_sem, e116]
    trivial
  · refine ⟨?_, ?_⟩
    · exact not_needed (by kernel_rfl)
    refine ⟨?_, ?_⟩
    · exact not_needed (by kernel_rfl)
    refine ⟨?_, ?_⟩
    · exact not_needed (by kernel_rfl)
    refine ⟨?_, ?_⟩
    · exact not_needed (by kernel_rfl)
    refine ⟨?_, ?_⟩
    · exact not_needed (by kernel_rfl)
    refine ⟨?_, ?_⟩
    · exact not_needed (by kernel_rfl)
    refine ⟨?_, ?_⟩
    · exact not_needed (by kernel_rfl)
    refine ⟨?_, ?_⟩
    · exact not_needed (by kernel_rfl)
    refine ⟨?_, ?_⟩
    · exact not_needed (by kernel_rfl)
    refine ⟨?_, ?_⟩
    · intro hp A w1 hb ho hd
      clear hp
      have e106 : A.tmps[106]?.getD undef = .tuple #[.agg #[.int .u64 ((key : Nat) : Int), .int .i64 (ep), .int .i64 (ser), .int .i64 (siz), .int .i64 (tail), .int .i64 (num)], .int .i64 (1), .int .i64 0] := getq (hd _ (Array.mem_of_getElem? (i := 0) rfl) rfl _ _ rfl rfl)
      refine ⟨rfl, goes_value (v := .int .i64 (1)) ?_ rfl⟩
      simp [go_sem, e106]
    refine ⟨?_, ?_⟩
    · intro hp A w1 hb ho hd
      clear hp
      have e106 : A.tmps[106]?.getD undef = .tuple #[.agg #[.int .u64 ((key : Nat) : Int), .int .i64 (ep), .int .i64 (ser), .int .i64 (siz), .int .i64 (tail), .int .i64 (num)], .int .i64 (1), .int .i64 0] := getq (hd _ (Array.mem_of_getElem? (i := 0) rfl) rfl _ _ rfl rfl)
      refine ⟨rfl, goes_value (v := .int .i64 0) ?_ rfl⟩
      simp [go_sem, e106]
    refine ⟨?_, ?_⟩
    · exact not_needed (by kernel_rfl)
    refine ⟨?_, ?_⟩
    · exact not_needed (by kernel_rfl)
    refine ⟨?_, ?_⟩
    · intro hp A w1 hb ho hd
      clear hp
      have e115 : A.tmps[115]?.getD undef = .int .i64 (1) := getq (hd _ (Array.mem_of_getElem? (i := 0) rfl) rfl _ _ rfl rfl)
      refine ⟨rfl, goes_value (v := .int .i64 (1)) ?_ rfl⟩
      simp [go_sem, e115]
    refine ⟨?_, ?_⟩
    · intro hp A w1 hb ho hd
      clear hp
      have e116 : A.tmps[116]?.getD undef = .int .i64 0 := getq (hd _ (Array.mem_of_getElem? (i := 0) rfl) rfl _ _ rfl rfl)
      refine ⟨rfl, goes_value (v := .int .i64 0) ?_ rfl⟩
      simp [go_sem, e116]
    trivial
  · intro A w2 hb ho hd
    obtain ⟨g, hg, hge, Zb⟩ := hd _ (Array.mem_of_getElem? (i := 0) rfl) rfl _ _ rfl rfl
    have e18 := getq hg
    have eV : A.tmps[114]?.getD undef = .agg #[.int .u64 ((key : Nat) : Int), .int .i64 (ep), .int .i64 (ser), .int .i64 (siz), .int .i64 (tail), .int .i64 (num)] := getq (hd _ (Array.mem_of_getElem? (i := 1) rfl) rfl _ _ rfl rfl)
    have zc0 := Zb.c0
    have zc1 := Zb.c1
    have zc2 := Zb.c2
    have zc3 := Zb.c3
    have zc4 := Zb.c4
    have zc5 := Zb.c5
    have zf0 := Zb.fr 0 (by omega)
    have zf1 := Zb.fr 1 (by omega)
    have zf2 := Zb.fr 2 (by omega)
    have zf3 := Zb.fr 3 (by omega)
    have zf4 := Zb.fr 4 (by omega)
    have zf5 := Zb.fr 5 (by omega)
    refine ⟨_, by simp [go_sem, e18, eV, zc0, zc1, zc2, zc3, zc4, zc5, zf0, zf1, zf2, zf3, zf4, zf5]; rfl, ?_, ?_⟩
    · exact BoxC.below Zb hb hge (key) (ep) (ser) (siz) (tail) (num)
    · intro j o d hj hdst h
      match j, hj, hdst, h with
      | 0, _, _, h => exact h
      | 1, _, _, h => exact h
      | 2, _, _, h => exact h
      | 3, _, _, h => exact h
      | 4, _, _, h => exact h
      | 5, _, _, h => exact h
      | 6, _, _, h => exact h
      | 7, _, _, h => exact h
      | 8, _, _, h => exact h
      | 9, _, _, h => exact h
      | 10, _, _, h => exact h
      | 11, hj, hdst, _ =>
        cases hj
        cases hdst
        exact ⟨g, hg, hge, Zb.put (key) (ep) (ser) (siz) (tail) (num)⟩
      | 12, _, _, h => exact h
      | 13, _, _, h => exact h
      | 14, _, _, h => exact h
      | j + 15, hj, _, _ => simp at hj
  intro A w9 hb9 hdf hsz hol hft
  obtain ⟨gx, hgx, hgxe, XN⟩ := hft 11 _ 18 rfl rfl
  have m107 : A.tmps.getD 107 undef = .slice (some ⟨pz.val.heap.size, 0, none⟩) 2 2 := hft 0 _ 107 rfl rfl
  have m108 : A.tmps.getD 108 undef = .pointer (some ⟨pz.val.heap.size, 0, none⟩) := hft 1 _ 108 rfl rfl
  have m109 : A.tmps.getD 109 undef = .string (F1.extract 0 32 ++ G.extract 32 64) := hft 2 _ 109 rfl rfl
  have m110 : A.tmps.getD 110 undef = .slice (some ⟨pz.val.heap.size, 0, none⟩) 2 2 := hft 3 _ 110 rfl rfl
  have m111 : A.tmps.getD 111 undef = .pointer (some ⟨pz.val.heap.size, 1, none⟩) := hft 4 _ 111 rfl rfl
  have m112 : A.tmps.getD 112 undef = .string C := hft 5 _ 112 rfl rfl
  have m113 : A.tmps.getD 113 undef = .tuple #[.agg #[.int .u64 ((key : Nat) : Int), .int .i64 (ep), .int .i64 (ser), .int .i64 (siz), .int .i64 (tail), .int .i64 (num)], .int .i64 (1), .int .i64 0] := hft 6 _ 113 rfl rfl
  have m106 : A.tmps.getD 106 undef = .tuple #[.agg #[.int .u64 ((key : Nat) : Int), .int .i64 (ep), .int .i64 (ser), .int .i64 (siz), .int .i64 (tail), .int .i64 (num)], .int .i64 (1), .int .i64 0] := hft 7 _ 106 rfl rfl
  have m114 : A.tmps.getD 114 undef = .agg #[.int .u64 ((key : Nat) : Int), .int .i64 (ep), .int .i64 (ser), .int .i64 (siz), .int .i64 (tail), .int .i64 (num)] := hft 8 _ 114 rfl rfl
  have m115 : A.tmps.getD 115 undef = .int .i64 (1) := hft 9 _ 115 rfl rfl
  have m116 : A.tmps.getD 116 undef = .int .i64 0 := hft 10 _ 116 rfl rfl
  have m19 : A.tmps.getD 19 undef = .int .i64 (1) := hft 13 _ 19 rfl rfl
  have m20 : A.tmps.getD 20 undef = .int .i64 0 := hft 14 _ 20 rfl rfl
  rename_i KK hKK
  refine hKK _ _ ?_
  show Code.wp _ _ _ A w9
  rw [frame_puts hdf hsz hol]
  simp only [List.foldl_cons, List.foldl_nil, Act.put, Option.getD_some, m107, m108, m109, m110, m111, m112, m113, m106, m114, m115, m116, m19, m20, hgx, List.setIfInBounds_toArray, List.set_cons_succ, List.set_cons_zero]
  clear m107 m108 m109 m110 m111 m112 m113 m106 m114 m115 m116 m19 m20 hft hol hsz hdf hKK hgx
  replace X := X.later (hb9.mono X.lt)
  replace D := D.later (hb9.mono D.lt)
  replace Y := Y.later (hb9.mono Y.lt)
  replace F := F.later (hb9.mono F.lt)
  replace L := L.later (hb9.mono L.lt)
  replace BB := BB.trans (hb9.mono BB.size)
  have XNc0_31 := XN.c0
  have XNc1_31 := XN.c1
  have XNc2_31 := XN.c2
  have XNc3_31 := XN.c3
  have XNc4_31 := XN.c4
  have XNc5_31 := XN.c5
  have Xc0_32 := X.c0
  have Xc1_32 := X.c1
  have Xc2_32 := X.c2
  have Xc3_32 := X.c3
  have Xc4_32 := X.c4
  have Xc5_32 := X.c5
  have Yc0_33 := Y.c0
  have Yc1_33 := Y.c1
  have Yc2_33 := Y.c2
  have Yc3_33 := Y.c3
  have Yc4_33 := Y.c4
  have Yc5_33 := Y.c5
  go_wp2_with fail
  refine (hSx _).mono ?_
  rintro e w15 ⟨rfl, b15⟩
  clear XNc0_31 XNc1_31 XNc2_31 XNc3_31 XNc4_31 XNc5_31
  clear Xc0_32 Xc1_32 Xc2_32 Xc3_32 Xc4_32 Xc5_32
  clear Yc0_33 Yc1_33 Yc2_33 Yc3_33 Yc4_33 Yc5_33
  replace X := X.later (b15.mono X.lt)
  replace D := D.later (b15.mono D.lt)
  replace Y := Y.later (b15.mono Y.lt)
  replace F := F.later (b15.mono F.lt)
  replace L := L.later (b15.mono L.lt)
  replace XN := XN.later (b15.mono XN.lt)
  replace BB := BB.trans (b15.mono BB.size)
  clear b15 
  have XNc0_34 := XN.c0
  have XNc1_34 := XN.c1
  have XNc2_34 := XN.c2
  have XNc3_34 := XN.c3
  have XNc4_34 := XN.c4
  have XNc5_34 := XN.c5
  have Xc0_35 := X.c0
  have Xc1_35 := X.c1
  have Xc2_35 := X.c2
  have Xc3_35 := X.c3
  have Xc4_35 := X.c4
  have Xc5_35 := X.c5
  have Yc0_36 := Y.c0
  have Yc1_36 := Y.c1
  have Yc2_36 := Y.c2
  have Yc3_36 := Y.c3
  have Yc4_36 := Y.c4
  have Yc5_36 := Y.c5
  go_wp2_with fail
  refine (awake_any _ (T.later BB)).mono ?_
  rintro e w16 ⟨rfl, b16⟩
  clear XNc0_34 XNc1_34 XNc2_34 XNc3_34 XNc4_34 XNc5_34
  clear Xc0_35 Xc1_35 Xc2_35 Xc3_35 Xc4_35 Xc5_35
  clear Yc0_36 Yc1_36 Yc2_36 Yc3_36 Yc4_36 Yc5_36
  replace X := X.later (b16.mono X.lt)
  replace D := D.later (b16.mono D.lt)
  replace Y := Y.later (b16.mono Y.lt)
  replace F := F.later (b16.mono F.lt)
  replace L := L.later (b16.mono L.lt)
  replace XN := XN.later (b16.mono XN.lt)
  replace BB := BB.trans (b16.mono BB.size)
  clear b16 
  have XNc0_37 := XN.c0
  have XNc1_37 := XN.c1
  have XNc2_37 := XN.c2
  have XNc3_37 := XN.c3
  have XNc4_37 := XN.c4
  have XNc5_37 := XN.c5
  have Xc0_38 := X.c0
  have Xc1_38 := X.c1
  have Xc2_38 := X.c2
  have Xc3_38 := X.c3
  have Xc4_38 := X.c4
  have Xc5_38 := X.c5
  have Yc0_39 := Y.c0
  have Yc1_39 := Y.c1
  have Yc2_39 := Y.c2
  have Yc3_39 := Y.c3
  have Yc4_39 := Y.c4
  have Yc5_39 := Y.c5
  go_wp2
  go_ret
  exact ⟨rfl, BB⟩

set_option maxRecDepth 100000 in
set_option maxHeartbeats 16000000 in
theorem torn_po0 (key : Nat) (ep ser siz tail num a b : Int) (how : Int) (k1 : ¬ how = 1) (k2 : ¬ how = 2) (l1 : ser < 1099511627776) (l0 : 0 < ser) (C F1 Z : ByteArray) (G : ByteArray) (zF : F1.size = 64) (_zC : C.size = 64) (_zZ : Z.size = 64) (zG : G.size = 64)
    (hPl : ∀ w, Calls Tryd.prog 10 #[.agg #[.int .u64 ((key : Nat) : Int), .int .i64 (ep), .int .i64 (ser), .int .i64 (siz), .int .i64 (tail), .int .i64 (num)]] w fun e w' => e = .returned (.agg #[.int .u64 ((key : Nat) : Int), .int .i64 (ep), .int .i64 (ser), .int .i64 (siz), .int .i64 (tail), .int .i64 (num)]) ∧ Below w.heap.size w w')
    (hRc : ∀ w, Calls Tryd.prog 9 #[.agg #[.int .u64 ((key : Nat) : Int), .int .i64 (ep), .int .i64 (ser), .int .i64 (siz), .int .i64 (tail), .int .i64 (num)]] w fun e w' => e = .returned (.int .i64 0) ∧ Below w.heap.size w w')
    (hN : ∀ w, Calls Tryd.prog 20 #[.agg #[.int .u64 ((key : Nat) : Int), .int .i64 (ep), .int .i64 (ser), .int .i64 (siz), .int .i64 (tail), .int .i64 (num)], .int .i64 a, .int .i64 b] w fun e w' => e = .returned (.tuple #[.agg #[.int .u64 ((key : Nat) : Int), .int .i64 (ep), .int .i64 (ser + 1), .int .i64 (siz), .int .i64 (a), .int .i64 (b)], .int .i64 0]) ∧ Below w.heap.size w w')
    (hE1 : ∀ w, Tab w → Calls Tryd.prog 11 #[.agg #[.int .u64 ((key : Nat) : Int), .int .i64 (ep), .int .i64 (ser), .int .i64 (siz), .int .i64 (tail), .int .i64 (num)]] w fun e w' => e = .returned (.tuple #[.string C, .int .i64 0]) ∧ Below w.heap.size w w')
    (hE2 : ∀ w, Tab w → Calls Tryd.prog 11 #[.agg #[.int .u64 ((key : Nat) : Int), .int .i64 (ep), .int .i64 (ser + 1), .int .i64 (siz), .int .i64 (a), .int .i64 (b)]] w fun e w' => e = .returned (.tuple #[.string F1, .int .i64 0]) ∧ Below w.heap.size w w')
    (hS1 : ∀ w, Calls Tryd.prog 15 #[.agg #[.int .u64 ((key : Nat) : Int), .int .i64 (ep), .int .i64 (ser), .int .i64 (siz), .int .i64 (tail), .int .i64 (num)]] w fun e w' => e = .returned (.int .i64 0) ∧ Below w.heap.size w w')
    (hS2 : ∀ w, Calls Tryd.prog 15 #[.agg #[.int .u64 ((key : Nat) : Int), .int .i64 (ep), .int .i64 (ser + 1), .int .i64 (siz), .int .i64 (a), .int .i64 (b)]] w fun e w' => e = .returned (.int .i64 1) ∧ Below w.heap.size w w')
    (hP : ∀ w, Tab w → Calls Tryd.prog 18 #[.string C, .string G] w fun e w' => e = .returned (.tuple #[.agg #[.int .u64 ((key : Nat) : Int), .int .i64 (ep), .int .i64 (ser), .int .i64 (siz), .int .i64 (tail), .int .i64 (num)], .int .i64 (0), .int .i64 0]) ∧ Below w.heap.size w w')
    (hSx : ∀ w, Calls Tryd.prog 15 #[.agg #[.int .u64 ((key : Nat) : Int), .int .i64 (ep), .int .i64 (ser), .int .i64 (siz), .int .i64 (tail), .int .i64 (num)]] w fun e w' => e = .returned (.int .i64 (0)) ∧ Below w.heap.size w w')
    (hZ : Hid (str (List.replicate 64 0) = Z))
    (hE3 : ∀ w, Tab w → Calls Tryd.prog 11 #[.agg #[.int .u64 ((key : Nat) : Int), .int .i64 (ep), .int .i64 (ser - 1), .int .i64 (siz), .int .i64 (tail), .int .i64 (num)]] w fun e w' => e = .returned (.tuple #[.string G, .int .i64 0]) ∧ Below w.heap.size w w')
    (W : World) (T : Tab W) : Calls Tryd.prog 7 #[.agg #[.int .u64 ((key : Nat) : Int), .int .i64 (ep), .int .i64 (ser), .int .i64 (siz), .int .i64 (tail), .int .i64 (num)], .agg #[.int .i64 a, .int .i64 b], .int .i64 how] W fun e w' => e = .returned (.bool true) ∧ Below W.heap.size W w' := by
  have BB := Below.refl W.heap.size W
  have b1 := below_alloc W (.cells #[.int .u64 ((key : Nat) : Int), .int .i64 (ep), .int .i64 (ser), .int .i64 (siz), .int .i64 (tail), .int .i64 (num)] 24)
  have X : BoxC (W.alloc (.cells #[.int .u64 ((key : Nat) : Int), .int .i64 (ep), .int .i64 (ser), .int .i64 (siz), .int .i64 (tail), .int .i64 (num)] 24)) W.heap.size (key) (ep) (ser) (siz) (tail) (num) := boxC W (key) (ep) (ser) (siz) (tail) (num) 24
  replace BB := BB.trans (b1.mono BB.size)
  clear b1
  have Xc0_1 := X.c0
  have Xc1_1 := X.c1
  have Xc2_1 := X.c2
  have Xc3_1 := X.c3
  have Xc4_1 := X.c4
  have Xc5_1 := X.c5
  have b2 := below_alloc (W.alloc (.cells #[.int .u64 ((key : Nat) : Int), .int .i64 (ep), .int .i64 (ser), .int .i64 (siz), .int .i64 (tail), .int .i64 (num)] 24)) (.cells #[.int .i64 a, .int .i64 b] 49)
  have D : R2 ((W.alloc (.cells #[.int .u64 ((key : Nat) : Int), .int .i64 (ep), .int .i64 (ser), .int .i64 (siz), .int .i64 (tail), .int .i64 (num)] 24)).alloc (.cells #[.int .i64 a, .int .i64 b] 49)) (W.alloc (.cells #[.int .u64 ((key : Nat) : Int), .int .i64 (ep), .int .i64 (ser), .int .i64 (siz), .int .i64 (tail), .int .i64 (num)] 24)).heap.size (.int .i64 a) (.int .i64 b) := r2_new _ _ _ _
  simp only [World.size_alloc] at D
  replace X := X.later (b2.mono X.lt)
  replace BB := BB.trans (b2.mono BB.size)
  clear b2
  have Xc0_2 := X.c0
  have Xc1_2 := X.c1
  have Xc2_2 := X.c2
  have Xc3_2 := X.c3
  have Xc4_2 := X.c4
  have Xc5_2 := X.c5
  have Dc0_3 := D.c0
  have Dc1_3 := D.c1
  go_enter Tryd.func7, Tryd.ntmps7
  go_wp2_with fail
  refine (hPl _).mono ?_
  rintro e w3 ⟨rfl, b3⟩
  clear Xc0_2 Xc1_2 Xc2_2 Xc3_2 Xc4_2 Xc5_2
  clear Dc0_3 Dc1_3
  clear Xc0_1 Xc1_1 Xc2_1 Xc3_1 Xc4_1 Xc5_1
  replace X := X.later (b3.mono X.lt)
  replace D := D.later (b3.mono D.lt)
  replace BB := BB.trans (b3.mono BB.size)
  clear b3 
  have Xc0_4 := X.c0
  have Xc1_4 := X.c1
  have Xc2_4 := X.c2
  have Xc3_4 := X.c3
  have Xc4_4 := X.c4
  have Xc5_4 := X.c5
  have Dc0_5 := D.c0
  have Dc1_5 := D.c1
  go_wp2_with fail
  refine (hRc _).mono ?_
  rintro e w4 ⟨rfl, b4⟩
  clear Xc0_4 Xc1_4 Xc2_4 Xc3_4 Xc4_4 Xc5_4
  clear Dc0_5 Dc1_5
  replace X := X.later (b4.mono X.lt)
  replace D := D.later (b4.mono D.lt)
  replace BB := BB.trans (b4.mono BB.size)
  clear b4 
  have Xc0_6 := X.c0
  have Xc1_6 := X.c1
  have Xc2_6 := X.c2
  have Xc3_6 := X.c3
  have Xc4_6 := X.c4
  have Xc5_6 := X.c5
  have Dc0_7 := D.c0
  have Dc1_7 := D.c1
  go_wp2_with fail
  refine (hN _).mono ?_
  rintro e w5 ⟨rfl, b5⟩
  clear Xc0_6 Xc1_6 Xc2_6 Xc3_6 Xc4_6 Xc5_6
  clear Dc0_7 Dc1_7
  replace X := X.later (b5.mono X.lt)
  replace D := D.later (b5.mono D.lt)
  replace BB := BB.trans (b5.mono BB.size)
  clear b5 
  have Xc0_8 := X.c0
  have Xc1_8 := X.c1
  have Xc2_8 := X.c2
  have Xc3_8 := X.c3
  have Xc4_8 := X.c4
  have Xc5_8 := X.c5
  have Dc0_9 := D.c0
  have Dc1_9 := D.c1
  have b6 := below_alloc w5 (.cells #[.int .u64 ((key : Nat) : Int), .int .i64 (ep), .int .i64 (ser + 1), .int .i64 (siz), .int .i64 (a), .int .i64 (b)] 24)
  have Y : BoxC (w5.alloc (.cells #[.int .u64 ((key : Nat) : Int), .int .i64 (ep), .int .i64 (ser + 1), .int .i64 (siz), .int .i64 (a), .int .i64 (b)] 24)) w5.heap.size (key) (ep) (ser + 1) (siz) (a) (b) := boxC w5 (key) (ep) (ser + 1) (siz) (a) (b) 24
  replace X := X.later (b6.mono X.lt)
  replace D := D.later (b6.mono D.lt)
  replace BB := BB.trans (b6.mono BB.size)
  clear b6
  have Xc0_10 := X.c0
  have Xc1_10 := X.c1
  have Xc2_10 := X.c2
  have Xc3_10 := X.c3
  have Xc4_10 := X.c4
  have Xc5_10 := X.c5
  have Dc0_11 := D.c0
  have Dc1_11 := D.c1
  have Yc0_12 := Y.c0
  have Yc1_12 := Y.c1
  have Yc2_12 := Y.c2
  have Yc3_12 := Y.c3
  have Yc4_12 := Y.c4
  have Yc5_12 := Y.c5
  go_wp2_with fail
  refine (hE1 _ (T.later BB)).mono ?_
  rintro e w7 ⟨rfl, b7⟩
  clear Xc0_10 Xc1_10 Xc2_10 Xc3_10 Xc4_10 Xc5_10
  clear Dc0_11 Dc1_11
  clear Yc0_12 Yc1_12 Yc2_12 Yc3_12 Yc4_12 Yc5_12
  clear Xc0_8 Xc1_8 Xc2_8 Xc3_8 Xc4_8 Xc5_8 Dc0_9 Dc1_9
  replace X := X.later (b7.mono X.lt)
  replace D := D.later (b7.mono D.lt)
  replace Y := Y.later (b7.mono Y.lt)
  replace BB := BB.trans (b7.mono BB.size)
  clear b7 
  have Xc0_13 := X.c0
  have Xc1_13 := X.c1
  have Xc2_13 := X.c2
  have Xc3_13 := X.c3
  have Xc4_13 := X.c4
  have Xc5_13 := X.c5
  have Dc0_14 := D.c0
  have Dc1_14 := D.c1
  have Yc0_15 := Y.c0
  have Yc1_15 := Y.c1
  have Yc2_15 := Y.c2
  have Yc3_15 := Y.c3
  have Yc4_15 := Y.c4
  have Yc5_15 := Y.c5
  go_wp2_with fail
  refine (hE2 _ (T.later BB)).mono ?_
  rintro e w8 ⟨rfl, b8⟩
  clear Xc0_13 Xc1_13 Xc2_13 Xc3_13 Xc4_13 Xc5_13
  clear Dc0_14 Dc1_14
  clear Yc0_15 Yc1_15 Yc2_15 Yc3_15 Yc4_15 Yc5_15
  replace X := X.later (b8.mono X.lt)
  replace D := D.later (b8.mono D.lt)
  replace Y := Y.later (b8.mono Y.lt)
  replace BB := BB.trans (b8.mono BB.size)
  clear b8 
  have Xc0_16 := X.c0
  have Xc1_16 := X.c1
  have Xc2_16 := X.c2
  have Xc3_16 := X.c3
  have Xc4_16 := X.c4
  have Xc5_16 := X.c5
  have Dc0_17 := D.c0
  have Dc1_17 := D.c1
  have Yc0_18 := Y.c0
  have Yc1_18 := Y.c1
  have Yc2_18 := Y.c2
  have Yc3_18 := Y.c3
  have Yc4_18 := Y.c4
  have Yc5_18 := Y.c5
  clear Xc0_16 Xc1_16 Xc2_16 Xc3_16 Xc4_16 Xc5_16
  clear Dc0_17 Dc1_17
  clear Yc0_18 Yc1_18 Yc2_18 Yc3_18 Yc4_18 Yc5_18
  have hne9 := later_ne w8
  have qX0 : ∀ p : Later w8, p.val.cell? ⟨W.heap.size, 0, none⟩ = some (.int .u64 ((key : Nat) : Int)) := fun p => (X.later (p.below.mono X.lt)).c0
  have qX1 : ∀ p : Later w8, p.val.cell? ⟨W.heap.size, 1, none⟩ = some (.int .i64 (ep)) := fun p => (X.later (p.below.mono X.lt)).c1
  have qX2 : ∀ p : Later w8, p.val.cell? ⟨W.heap.size, 2, none⟩ = some (.int .i64 (ser)) := fun p => (X.later (p.below.mono X.lt)).c2
  have qX3 : ∀ p : Later w8, p.val.cell? ⟨W.heap.size, 3, none⟩ = some (.int .i64 (siz)) := fun p => (X.later (p.below.mono X.lt)).c3
  have qX4 : ∀ p : Later w8, p.val.cell? ⟨W.heap.size, 4, none⟩ = some (.int .i64 (tail)) := fun p => (X.later (p.below.mono X.lt)).c4
  have qX5 : ∀ p : Later w8, p.val.cell? ⟨W.heap.size, 5, none⟩ = some (.int .i64 (num)) := fun p => (X.later (p.below.mono X.lt)).c5
  have qY0 : ∀ p : Later w8, p.val.cell? ⟨w5.heap.size, 0, none⟩ = some (.int .u64 ((key : Nat) : Int)) := fun p => (Y.later (p.below.mono Y.lt)).c0
  have qY1 : ∀ p : Later w8, p.val.cell? ⟨w5.heap.size, 1, none⟩ = some (.int .i64 (ep)) := fun p => (Y.later (p.below.mono Y.lt)).c1
  have qY2 : ∀ p : Later w8, p.val.cell? ⟨w5.heap.size, 2, none⟩ = some (.int .i64 (ser + 1)) := fun p => (Y.later (p.below.mono Y.lt)).c2
  have qY3 : ∀ p : Later w8, p.val.cell? ⟨w5.heap.size, 3, none⟩ = some (.int .i64 (siz)) := fun p => (Y.later (p.below.mono Y.lt)).c3
  have qY4 : ∀ p : Later w8, p.val.cell? ⟨w5.heap.size, 4, none⟩ = some (.int .i64 (a)) := fun p => (Y.later (p.below.mono Y.lt)).c4
  have qY5 : ∀ p : Later w8, p.val.cell? ⟨w5.heap.size, 5, none⟩ = some (.int .i64 (b)) := fun p => (Y.later (p.below.mono Y.lt)).c5
  go_wp2
  refine wp_region_later (by kernel_rfl) (by kernel_rfl) ?_
  (repeat (first | go_big_quiet_skip | (go_big_quiet_want; go_big_quiet_op; go_big_quiet_on)))
  (go_big_quiet_want; go_big_quiet_op; apply Exists.intro; refine ⟨fun p => ?_, ?_⟩; (· exact later_of (hS1 _)); go_big_quiet_on)
  (repeat (first | go_big_quiet_skip | (go_big_quiet_want; go_big_quiet_op; go_big_quiet_on)))
  (go_big_quiet_want; go_big_quiet_op; apply Exists.intro; refine ⟨fun p => ?_, ?_⟩; (· exact later_of (hS2 _)); go_big_quiet_on)
  (repeat (first | go_big_quiet_skip | (go_big_quiet_want; go_big_quiet_op; go_big_quiet_on)))
  refine wpQuiet_nil ?_
  rintro _ ⟨p9, rfl⟩
  replace X := X.later (p9.below.mono X.lt)
  replace D := D.later (p9.below.mono D.lt)
  replace Y := Y.later (p9.below.mono Y.lt)
  replace BB := BB.trans (p9.below.mono BB.size)
  clear hne9 qX0 qX1 qX2 qX3 qX4 qX5 qY0 qY1 qY2 qY3 qY4 qY5
  have hmk : (Instr.makeSlice 47 (.int .i64 64) (.int .i64 64)).run Tryd.prog p9.val = .ok (.slice (some ⟨p9.val.heap.size, 0, none⟩) 64 64) (p9.val.alloc (.cells (zs 64) 5)) := make_bytes (N := 64) (by omega) _
  have hcv : (convert 47 9 (.slice (some ⟨p9.val.heap.size, 0, none⟩) 64 64)).run Tryd.prog (p9.val.alloc (.cells (zs 64) 5)) = .ok (.string Z) (p9.val.alloc (.cells (zs 64) 5)) := by rw [← hZ.out]; exact conv_rep (fun i hi => by simp [zs_get hi])
  generalize hzz : zs 64 = ZZ at *
  have b10 := below_alloc p9.val (.cells ZZ 5)
  replace X := X.later (b10.mono X.lt)
  replace D := D.later (b10.mono D.lt)
  replace Y := Y.later (b10.mono Y.lt)
  replace BB := BB.trans (b10.mono BB.size)
  clear b10
  have Xc0_19 := X.c0
  have Xc1_19 := X.c1
  have Xc2_19 := X.c2
  have Xc3_19 := X.c3
  have Xc4_19 := X.c4
  have Xc5_19 := X.c5
  have XI := X.later ((below_alloc (p9.val.alloc (.cells ZZ 5)) (.cells #[.int .u64 ((key : Nat) : Int), .int .i64 (ep), .int .i64 (ser), .int .i64 (siz), .int .i64 (tail), .int .i64 (num)] 24)).mono X.lt)
  have XIc := XI.c2
  clear XI
  have b11 := below_alloc (p9.val.alloc (.cells ZZ 5)) (.cells #[.int .u64 ((key : Nat) : Int), .int .i64 (ep), .int .i64 (ser - 1), .int .i64 (siz), .int .i64 (tail), .int .i64 (num)] 24)
  have F : BoxC ((p9.val.alloc (.cells ZZ 5)).alloc (.cells #[.int .u64 ((key : Nat) : Int), .int .i64 (ep), .int .i64 (ser - 1), .int .i64 (siz), .int .i64 (tail), .int .i64 (num)] 24)) (p9.val.alloc (.cells ZZ 5)).heap.size (key) (ep) (ser - 1) (siz) (tail) (num) := boxC (p9.val.alloc (.cells ZZ 5)) (key) (ep) (ser - 1) (siz) (tail) (num) 24
  simp only [World.size_alloc] at F
  replace X := X.later (b11.mono X.lt)
  replace D := D.later (b11.mono D.lt)
  replace Y := Y.later (b11.mono Y.lt)
  replace BB := BB.trans (b11.mono BB.size)
  clear b11
  have Xc0_20 := X.c0
  have Xc1_20 := X.c1
  have Xc2_20 := X.c2
  have Xc3_20 := X.c3
  have Xc4_20 := X.c4
  have Xc5_20 := X.c5
  have Fc0_21 := F.c0
  have Fc1_21 := F.c1
  have Fc2_21 := F.c2
  have Fc3_21 := F.c3
  have Fc4_21 := F.c4
  have Fc5_21 := F.c5
  go_wp2_with fail
  refine (hE3 _ (T.later BB)).mono ?_
  rintro e w12 ⟨rfl, b12⟩
  clear Xc0_20 Xc1_20 Xc2_20 Xc3_20 Xc4_20 Xc5_20
  clear Fc0_21 Fc1_21 Fc2_21 Fc3_21 Fc4_21 Fc5_21
  clear XIc Xc0_19 Xc1_19 Xc2_19 Xc3_19 Xc4_19 Xc5_19
  replace X := X.later (b12.mono X.lt)
  replace D := D.later (b12.mono D.lt)
  replace Y := Y.later (b12.mono Y.lt)
  replace F := F.later (b12.mono F.lt)
  replace BB := BB.trans (b12.mono BB.size)
  clear b12 hmk hcv
  have Xc0_22 := X.c0
  have Xc1_22 := X.c1
  have Xc2_22 := X.c2
  have Xc3_22 := X.c3
  have Xc4_22 := X.c4
  have Xc5_22 := X.c5
  have Fc0_23 := F.c0
  have Fc1_23 := F.c1
  have Fc2_23 := F.c2
  have Fc3_23 := F.c3
  have Fc4_23 := F.c4
  have Fc5_23 := F.c5
  have b13 := below_alloc w12 (.cells #[.string G, .string C] 9)
  have L : R2 (w12.alloc (.cells #[.string G, .string C] 9)) w12.heap.size (.string G) (.string C) := r2_new _ _ _ _
  replace X := X.later (b13.mono X.lt)
  replace D := D.later (b13.mono D.lt)
  replace Y := Y.later (b13.mono Y.lt)
  replace F := F.later (b13.mono F.lt)
  replace BB := BB.trans (b13.mono BB.size)
  clear b13
  have Xc0_24 := X.c0
  have Xc1_24 := X.c1
  have Xc2_24 := X.c2
  have Xc3_24 := X.c3
  have Xc4_24 := X.c4
  have Xc5_24 := X.c5
  have Fc0_25 := F.c0
  have Fc1_25 := F.c1
  have Fc2_25 := F.c2
  have Fc3_25 := F.c3
  have Fc4_25 := F.c4
  have Fc5_25 := F.c5
  have Lc0_26 := L.c0
  have Lc1_26 := L.c1
  have Xc0_27 := X.c0
  have Xc1_27 := X.c1
  have Xc2_27 := X.c2
  have Xc3_27 := X.c3
  have Xc4_27 := X.c4
  have Xc5_27 := X.c5
  go_wp2_with fail
  refine (hS1 _).mono ?_
  rintro e w14 ⟨rfl, b14⟩
  clear Xc0_27 Xc1_27 Xc2_27 Xc3_27 Xc4_27 Xc5_27
  clear Fc0_25 Fc1_25 Fc2_25 Fc3_25 Fc4_25 Fc5_25
  clear Lc0_26 Lc1_26
  clear Xc0_22 Xc1_22 Xc2_22 Xc3_22 Xc4_22 Xc5_22 Fc0_23 Fc1_23 Fc2_23 Fc3_23 Fc4_23 Fc5_23 Xc0_24 Xc1_24 Xc2_24 Xc3_24 Xc4_24 Xc5_24
  replace X := X.later (b14.mono X.lt)
  replace D := D.later (b14.mono D.lt)
  replace Y := Y.later (b14.mono Y.lt)
  replace F := F.later (b14.mono F.lt)
  replace L := L.later (b14.mono L.lt)
  replace BB := BB.trans (b14.mono BB.size)
  clear b14 
  have Xc0_28 := X.c0
  have Xc1_28 := X.c1
  have Xc2_28 := X.c2
  have Xc3_28 := X.c3
  have Xc4_28 := X.c4
  have Xc5_28 := X.c5
  have Fc0_29 := F.c0
  have Fc1_29 := F.c1
  have Fc2_29 := F.c2
  have Fc3_29 := F.c3
  have Fc4_29 := F.c4
  have Fc5_29 := F.c5
  have Lc0_30 := L.c0
  have Lc1_30 := L.c1
  have b15 := below_alloc w14 (.cells #[.string C, .string G] 9)
  have M : R2 (w14.alloc (.cells #[.string C, .string G] 9)) w14.heap.size (.string C) (.string G) := r2_new _ _ _ _
  replace X := X.later (b15.mono X.lt)
  replace D := D.later (b15.mono D.lt)
  replace Y := Y.later (b15.mono Y.lt)
  replace F := F.later (b15.mono F.lt)
  replace L := L.later (b15.mono L.lt)
  replace BB := BB.trans (b15.mono BB.size)
  clear b15
  have Xc0_31 := X.c0
  have Xc1_31 := X.c1
  have Xc2_31 := X.c2
  have Xc3_31 := X.c3
  have Xc4_31 := X.c4
  have Xc5_31 := X.c5
  have Fc0_32 := F.c0
  have Fc1_32 := F.c1
  have Fc2_32 := F.c2
  have Fc3_32 := F.c3
  have Fc4_32 := F.c4
  have Fc5_32 := F.c5
  have Lc0_33 := L.c0
  have Lc1_33 := L.c1
  have Mc0_34 := M.c0
  have Mc1_34 := M.c1
  clear Xc0_31 Xc1_31 Xc2_31 Xc3_31 Xc4_31 Xc5_31
  clear Fc0_32 Fc1_32 Fc2_32 Fc3_32 Fc4_32 Fc5_32
  clear Lc0_33 Lc1_33
  clear Mc0_34 Mc1_34
  clear Xc0_28 Xc1_28 Xc2_28 Xc3_28 Xc4_28 Xc5_28 Fc0_29 Fc1_29 Fc2_29 Fc3_29 Fc4_29 Fc5_29 Lc0_30 Lc1_30
  go_wp2
  generalize hwb : (w14.alloc (.cells #[.string C, .string G] 9)) = wb0 at *
  have TQ := T.later BB
  refine wp_region_specs_mid (n := 12) [.val (.slice (some ⟨w14.heap.size, 0, none⟩) 2 2), .val (.pointer (some ⟨w14.heap.size, 0, none⟩)), .val (.string C), .val (.slice (some ⟨w14.heap.size, 0, none⟩) 2 2), .val (.pointer (some ⟨w14.heap.size, 1, none⟩)), .val (.string G), .val (.tuple #[.agg #[.int .u64 ((key : Nat) : Int), .int .i64 (ep), .int .i64 (ser), .int .i64 (siz), .int .i64 (tail), .int .i64 (num)], .int .i64 (0), .int .i64 0]), .val (.tuple #[.agg #[.int .u64 ((key : Nat) : Int), .int .i64 (ep), .int .i64 (ser), .int .i64 (siz), .int .i64 (tail), .int .i64 (num)], .int .i64 (0), .int .i64 0]), .val (.agg #[.int .u64 ((key : Nat) : Int), .int .i64 (ep), .int .i64 (ser), .int .i64 (siz), .int .i64 (tail), .int .i64 (num)]), .val (.int .i64 (0)), .val (.int .i64 0), .nbox wb0.heap.size, .val (undef), .val (.int .i64 (0)), .val (.int .i64 0)] [.val (.slice (some ⟨w14.heap.size, 0, none⟩) 2 2), .val (.pointer (some ⟨w14.heap.size, 0, none⟩)), .val (.string C), .val (.slice (some ⟨w14.heap.size, 0, none⟩) 2 2), .val (.pointer (some ⟨w14.heap.size, 1, none⟩)), .val (.string G), .val (.tuple #[.agg #[.int .u64 ((key : Nat) : Int), .int .i64 (ep), .int .i64 (ser), .int .i64 (siz), .int .i64 (tail), .int .i64 (num)], .int .i64 (0), .int .i64 0]), .val (.tuple #[.agg #[.int .u64 ((key : Nat) : Int), .int .i64 (ep), .int .i64 (ser), .int .i64 (siz), .int .i64 (tail), .int .i64 (num)], .int .i64 (0), .int .i64 0]), .val (.agg #[.int .u64 ((key : Nat) : Int), .int .i64 (ep), .int .i64 (ser), .int .i64 (siz), .int .i64 (tail), .int .i64 (num)]), .val (.int .i64 (0)), .val (.int .i64 0), .sbox wb0.heap.size (key) (ep) (ser) (siz) (tail) (num), .val (undef), .val (.int .i64 (0)), .val (.int .i64 0)] (by kernel_rfl) (by kernel_rfl) rfl rfl rfl ?_ ?_ ?_ ?_
  · refine ⟨?_, ?_⟩
    · intro hp A w1 hb ho hd
      clear hp
      have e17 : A.tmps[17]?.getD undef = .slice (some ⟨w14.heap.size, 0, none⟩) 2 2 := olds_get ho 17 (by kernel_rfl)
      refine ⟨rfl, goes_value (v := .slice (some ⟨w14.heap.size, 0, none⟩) 2 2) ?_ rfl⟩
      simp [go_sem, e17]
    refine ⟨?_, ?_⟩
    · intro hp A w1 hb ho hd
      clear hp
      have e107 : A.tmps[107]?.getD undef = .slice (some ⟨w14.heap.size, 0, none⟩) 2 2 := getq (hd _ (Array.mem_of_getElem? (i := 0) rfl) rfl _ _ rfl rfl)
      refine ⟨rfl, goes_value (v := .pointer (some ⟨w14.heap.size, 0, none⟩)) ?_ rfl⟩
      simp [go_sem, e107]
    refine ⟨?_, ?_⟩
    · intro hp A w1 hb ho hd
      clear hp
      have e108 : A.tmps[108]?.getD undef = .pointer (some ⟨w14.heap.size, 0, none⟩) := getq (hd _ (Array.mem_of_getElem? (i := 0) rfl) rfl _ _ rfl rfl)
      have cz := (M.later (hb.mono M.lt)).c0
      refine ⟨rfl, goes_value (v := .string C) ?_ rfl⟩
      simp [go_sem, e108, cz]
    refine ⟨?_, ?_⟩
    · intro hp A w1 hb ho hd
      clear hp
      have e17 : A.tmps[17]?.getD undef = .slice (some ⟨w14.heap.size, 0, none⟩) 2 2 := olds_get ho 17 (by kernel_rfl)
      refine ⟨rfl, goes_value (v := .slice (some ⟨w14.heap.size, 0, none⟩) 2 2) ?_ rfl⟩
      simp [go_sem, e17]
    refine ⟨?_, ?_⟩
    · intro hp A w1 hb ho hd
      clear hp
      have e110 : A.tmps[110]?.getD undef = .slice (some ⟨w14.heap.size, 0, none⟩) 2 2 := getq (hd _ (Array.mem_of_getElem? (i := 0) rfl) rfl _ _ rfl rfl)
      refine ⟨rfl, goes_value (v := .pointer (some ⟨w14.heap.size, 1, none⟩)) ?_ rfl⟩
      simp [go_sem, e110]
    refine ⟨?_, ?_⟩
    · intro hp A w1 hb ho hd
      clear hp
      have e111 : A.tmps[111]?.getD undef = .pointer (some ⟨w14.heap.size, 1, none⟩) := getq (hd _ (Array.mem_of_getElem? (i := 0) rfl) rfl _ _ rfl rfl)
      have cz := (M.later (hb.mono M.lt)).c1
      refine ⟨rfl, goes_value (v := .string G) ?_ rfl⟩
      simp [go_sem, e111, cz]
    refine ⟨?_, ?_⟩
    · intro hp A w1 hb ho hd
      clear hp
      have e109 : A.tmps[109]?.getD undef = .string C := getq (hd _ (Array.mem_of_getElem? (i := 0) rfl) rfl _ _ rfl rfl)
      have e112 : A.tmps[112]?.getD undef = .string G := getq (hd _ (Array.mem_of_getElem? (i := 1) rfl) rfl _ _ rfl rfl)
      refine ⟨rfl, goes_call (f := 18) (args := #[.string C, .string G]) ?_ (hP w1 (TQ.later hb))⟩
      simp [go_sem, e109, e112]
    refine ⟨?_, ?_⟩
    · intro hp A w1 hb ho hd
      clear hp
      have e113 : A.tmps[113]?.getD undef = .tuple #[.agg #[.int .u64 ((key : Nat) : Int), .int .i64 (ep), .int .i64 (ser), .int .i64 (siz), .int .i64 (tail), .int .i64 (num)], .int .i64 (0), .int .i64 0] := getq (hd _ (Array.mem_of_getElem? (i := 0) rfl) rfl _ _ rfl rfl)
      refine ⟨rfl, goes_value (v := .tuple #[.agg #[.int .u64 ((key : Nat) : Int), .int .i64 (ep), .int .i64 (ser), .int .i64 (siz), .int .i64 (tail), .int .i64 (num)], .int .i64 (0), .int .i64 0]) ?_ rfl⟩
      simp [go_sem, e113]
    refine ⟨?_, ?_⟩
    · intro hp A w1 hb ho hd
      clear hp
      have e106 : A.tmps[106]?.getD undef = .tuple #[.agg #[.int .u64 ((key : Nat) : Int), .int .i64 (ep), .int .i64 (ser), .int .i64 (siz), .int .i64 (tail), .int .i64 (num)], .int .i64 (0), .int .i64 0] := getq (hd _ (Array.mem_of_getElem? (i := 0) rfl) rfl _ _ rfl rfl)
      refine ⟨rfl, goes_value (v := .agg #[.int .u64 ((key : Nat) : Int), .int .i64 (ep), .int .i64 (ser), .int .i64 (siz), .int .i64 (tail), .int .i64 (num)]) ?_ rfl⟩
      simp [go_sem, e106]
    refine ⟨?_, ?_⟩
    · intro hp A w1 hb ho hd
      clear hp
      have e106 : A.tmps[106]?.getD undef = .tuple #[.agg #[.int .u64 ((key : Nat) : Int), .int .i64 (ep), .int .i64 (ser), .int .i64 (siz), .int .i64 (tail), .int .i64 (num)], .int .i64 (0), .int .i64 0] := getq (hd _ (Array.mem_of_getElem? (i := 0) rfl) rfl _ _ rfl rfl)
      refine ⟨rfl, goes_value (v := .int .i64 (0)) ?_ rfl⟩
      simp [go_sem, e106]
    refine ⟨?_, ?_⟩
    · intro hp A w1 hb ho hd
      clear hp
      have e106 : A.tmps[106]?.getD undef = .tuple #[.agg #[.int .u64 ((key : Nat) : Int), .int .i64 (ep), .int .i64 (ser), .int .i64 (siz), .int .i64 (tail), .int .i64 (num)], .int .i64 (0), .int .i64 0] := getq (hd _ (Array.mem_of_getElem? (i := 0) rfl) rfl _ _ rfl rfl)
      refine ⟨rfl, goes_value (v := .int .i64 0) ?_ rfl⟩
      simp [go_sem, e106]
    refine ⟨?_, ?_⟩
    · intro hp A w1 hb ho hd
      clear hp
      refine ⟨rfl, goes_alloc (v := .pointer (some ⟨w1.heap.size, 0, none⟩)) (o := .cells #[.int .u64 ((0 : Nat) : Int), .int .i64 0, .int .i64 0, .int .i64 0, .int .i64 0, .int .i64 0] 24) ?_ ⟨_, rfl, hb.size, boxC _ 0 0 0 0 0 0 24⟩⟩
      simp [go_sem]
    refine ⟨?_, ?_⟩
    · exact fun hp => absurd hp (by decide)
    refine ⟨?_, ?_⟩
    · intro hp A w1 hb ho hd
      clear hp
      have e115 : A.tmps[115]?.getD undef = .int .i64 (0) := getq (hd _ (Array.mem_of_getElem? (i := 0) rfl) rfl _ _ rfl rfl)
      refine ⟨rfl, goes_value (v := .int .i64 (0)) ?_ rfl⟩
      simp [go_sem, e115]
    refine ⟨?_, ?_⟩
    · intro hp A w1 hb ho hd
      clear hp
      have e116 : A.tmps[116]?.getD undef = .int .i64 0 := getq (hd _ (Array.mem_of_getElem? (i := 0) rfl) rfl _ _ rfl rfl)
      refine ⟨rfl, goes_value (v := .int .i64 0) ?_ rfl⟩
      simp [go_sem, e116]
    trivial
  · refine ⟨?_, ?_⟩
    · exact not_needed (by kernel_rfl)
    refine ⟨?_, ?_⟩
    · exact not_needed (by kernel_rfl)
    refine ⟨?_, ?_⟩
    · exact not_needed (by kernel_rfl)
    refine ⟨?_, ?_⟩
    · exact not_needed (by kernel_rfl)
    refine ⟨?_, ?_⟩
    · exact not_needed (by kernel_rfl)
    refine ⟨?_, ?_⟩
    · exact not_needed (by kernel_rfl)
    refine ⟨?_, ?_⟩
    · exact not_needed (by kernel_rfl)
    refine ⟨?_, ?_⟩
    · exact not_needed (by kernel_rfl)
    refine ⟨?_, ?_⟩
    · exact not_needed (by kernel_rfl)
    refine ⟨?_, ?_⟩
    · intro hp A w1 hb ho hd
      clear hp
      have e106 : A.tmps[106]?.getD undef = .tuple #[.agg #[.int .u64 ((key : Nat) : Int), .int .i64 (ep), .int .i64 (ser), .int .i64 (siz), .int .i64 (tail), .int .i64 (num)], .int .i64 (0), .int .i64 0] := getq (hd _ (Array.mem_of_getElem? (i := 0) rfl) rfl _ _ rfl rfl)
      refine ⟨rfl, goes_value (v := .int .i64 (0)) ?_ rfl⟩
      simp [go_sem, e106]
    refine ⟨?_, ?_⟩
    · intro hp A w1 hb ho hd
      clear hp
      have e106 : A.tmps[106]?.getD undef = .tuple #[.agg #[.int .u64 ((key : Nat) : Int), .int .i64 (ep), .int .i64 (ser), .int .i64 (siz), .int .i64 (tail), .int .i64 (num)], .int .i64 (0), .int .i64 0] := getq (hd _ (Array.mem_of_getElem? (i := 0) rfl) rfl _ _ rfl rfl)
      refine ⟨rfl, goes_value (v := .int .i64 0) ?_ rfl⟩
      simp [go_sem, e106]
    refine ⟨?_, ?_⟩
    · exact not_needed (by kernel_rfl)
    refine ⟨?_, ?_⟩
    · exact not_needed (by kernel_rfl)
    refine ⟨?_, ?_⟩
    · intro hp A w1 hb ho hd
      clear hp
      have e115 : A.tmps[115]?.getD undef = .int .i64 (0) := getq (hd _ (Array.mem_of_getElem? (i := 0) rfl) rfl _ _ rfl rfl)
      refine ⟨rfl, goes_value (v := .int .i64 (0)) ?_ rfl⟩
      simp [go_sem, e115]
    refine ⟨?_, ?_⟩
    · intro hp A w1 hb ho hd
      clear hp
      have e116 : A.tmps[116]?.getD undef = .int .i64 0 := getq (hd _ (Array.mem_of_getElem? (i := 0) rfl) rfl _ _ rfl rfl)
      refine ⟨rfl, goes_value (v := .int .i64 0) ?_ rfl⟩
      simp [go_sem, e116]
    trivial
  · intro A w2 hb ho hd
    obtain ⟨g, hg, hge, Zb⟩ := hd _ (Array.mem_of_getElem? (i := 0) rfl) rfl _ _ rfl rfl
    have e18 := getq hg
    have eV : A.tmps[114]?.getD undef = .agg #[.int .u64 ((key : Nat) : Int), .int .i64 (ep), .int .i64 (ser), .int .i64 (siz), .int .i64 (tail), .int .i64 (num)] := getq (hd _ (Array.mem_of_getElem? (i := 1) rfl) rfl _ _ rfl rfl)
    have zc0 := Zb.c0
    have zc1 := Zb.c1
    have zc2 := Zb.c2
    have zc3 := Zb.c3
    have zc4 := Zb.c4
    have zc5 := Zb.c5
    have zf0 := Zb.fr 0 (by omega)
    have zf1 := Zb.fr 1 (by omega)
    have zf2 := Zb.fr 2 (by omega)
    have zf3 := Zb.fr 3 (by omega)
    have zf4 := Zb.fr 4 (by omega)
    have zf5 := Zb.fr 5 (by omega)
    refine ⟨_, by simp [go_sem, e18, eV, zc0, zc1, zc2, zc3, zc4, zc5, zf0, zf1, zf2, zf3, zf4, zf5]; rfl, ?_, ?_⟩
    · exact BoxC.below Zb hb hge (key) (ep) (ser) (siz) (tail) (num)
    · intro j o d hj hdst h
      match j, hj, hdst, h with
      | 0, _, _, h => exact h
      | 1, _, _, h => exact h
      | 2, _, _, h => exact h
      | 3, _, _, h => exact h
      | 4, _, _, h => exact h
      | 5, _, _, h => exact h
      | 6, _, _, h => exact h
      | 7, _, _, h => exact h
      | 8, _, _, h => exact h
      | 9, _, _, h => exact h
      | 10, _, _, h => exact h
      | 11, hj, hdst, _ =>
        cases hj
        cases hdst
        exact ⟨g, hg, hge, Zb.put (key) (ep) (ser) (siz) (tail) (num)⟩
      | 12, _, _, h => exact h
      | 13, _, _, h => exact h
      | 14, _, _, h => exact h
      | j + 15, hj, _, _ => simp at hj
  intro A w9 hb9 hdf hsz hol hft
  obtain ⟨gx, hgx, hgxe, XN⟩ := hft 11 _ 18 rfl rfl
  have m107 : A.tmps.getD 107 undef = .slice (some ⟨w14.heap.size, 0, none⟩) 2 2 := hft 0 _ 107 rfl rfl
  have m108 : A.tmps.getD 108 undef = .pointer (some ⟨w14.heap.size, 0, none⟩) := hft 1 _ 108 rfl rfl
  have m109 : A.tmps.getD 109 undef = .string C := hft 2 _ 109 rfl rfl
  have m110 : A.tmps.getD 110 undef = .slice (some ⟨w14.heap.size, 0, none⟩) 2 2 := hft 3 _ 110 rfl rfl
  have m111 : A.tmps.getD 111 undef = .pointer (some ⟨w14.heap.size, 1, none⟩) := hft 4 _ 111 rfl rfl
  have m112 : A.tmps.getD 112 undef = .string G := hft 5 _ 112 rfl rfl
  have m113 : A.tmps.getD 113 undef = .tuple #[.agg #[.int .u64 ((key : Nat) : Int), .int .i64 (ep), .int .i64 (ser), .int .i64 (siz), .int .i64 (tail), .int .i64 (num)], .int .i64 (0), .int .i64 0] := hft 6 _ 113 rfl rfl
  have m106 : A.tmps.getD 106 undef = .tuple #[.agg #[.int .u64 ((key : Nat) : Int), .int .i64 (ep), .int .i64 (ser), .int .i64 (siz), .int .i64 (tail), .int .i64 (num)], .int .i64 (0), .int .i64 0] := hft 7 _ 106 rfl rfl
  have m114 : A.tmps.getD 114 undef = .agg #[.int .u64 ((key : Nat) : Int), .int .i64 (ep), .int .i64 (ser), .int .i64 (siz), .int .i64 (tail), .int .i64 (num)] := hft 8 _ 114 rfl rfl
  have m115 : A.tmps.getD 115 undef = .int .i64 (0) := hft 9 _ 115 rfl rfl
  have m116 : A.tmps.getD 116 undef = .int .i64 0 := hft 10 _ 116 rfl rfl
  have m19 : A.tmps.getD 19 undef = .int .i64 (0) := hft 13 _ 19 rfl rfl
  have m20 : A.tmps.getD 20 undef = .int .i64 0 := hft 14 _ 20 rfl rfl
  rename_i KK hKK
  refine hKK _ _ ?_
  show Code.wp _ _ _ A w9
  rw [frame_puts hdf hsz hol]
  simp only [List.foldl_cons, List.foldl_nil, Act.put, Option.getD_some, m107, m108, m109, m110, m111, m112, m113, m106, m114, m115, m116, m19, m20, hgx, List.setIfInBounds_toArray, List.set_cons_succ, List.set_cons_zero]
  clear m107 m108 m109 m110 m111 m112 m113 m106 m114 m115 m116 m19 m20 hft hol hsz hdf hKK hgx
  replace X := X.later (hb9.mono X.lt)
  replace D := D.later (hb9.mono D.lt)
  replace Y := Y.later (hb9.mono Y.lt)
  replace F := F.later (hb9.mono F.lt)
  replace L := L.later (hb9.mono L.lt)
  replace M := M.later (hb9.mono M.lt)
  replace BB := BB.trans (hb9.mono BB.size)
  have XNc0_35 := XN.c0
  have XNc1_35 := XN.c1
  have XNc2_35 := XN.c2
  have XNc3_35 := XN.c3
  have XNc4_35 := XN.c4
  have XNc5_35 := XN.c5
  have Xc0_36 := X.c0
  have Xc1_36 := X.c1
  have Xc2_36 := X.c2
  have Xc3_36 := X.c3
  have Xc4_36 := X.c4
  have Xc5_36 := X.c5
  have Yc0_37 := Y.c0
  have Yc1_37 := Y.c1
  have Yc2_37 := Y.c2
  have Yc3_37 := Y.c3
  have Yc4_37 := Y.c4
  have Yc5_37 := Y.c5
  go_wp2_with fail
  refine (hSx _).mono ?_
  rintro e w16 ⟨rfl, b16⟩
  clear XNc0_35 XNc1_35 XNc2_35 XNc3_35 XNc4_35 XNc5_35
  clear Xc0_36 Xc1_36 Xc2_36 Xc3_36 Xc4_36 Xc5_36
  clear Yc0_37 Yc1_37 Yc2_37 Yc3_37 Yc4_37 Yc5_37
  replace X := X.later (b16.mono X.lt)
  replace D := D.later (b16.mono D.lt)
  replace Y := Y.later (b16.mono Y.lt)
  replace F := F.later (b16.mono F.lt)
  replace L := L.later (b16.mono L.lt)
  replace M := M.later (b16.mono M.lt)
  replace XN := XN.later (b16.mono XN.lt)
  replace BB := BB.trans (b16.mono BB.size)
  clear b16 
  have XNc0_38 := XN.c0
  have XNc1_38 := XN.c1
  have XNc2_38 := XN.c2
  have XNc3_38 := XN.c3
  have XNc4_38 := XN.c4
  have XNc5_38 := XN.c5
  have Xc0_39 := X.c0
  have Xc1_39 := X.c1
  have Xc2_39 := X.c2
  have Xc3_39 := X.c3
  have Xc4_39 := X.c4
  have Xc5_39 := X.c5
  have Yc0_40 := Y.c0
  have Yc1_40 := Y.c1
  have Yc2_40 := Y.c2
  have Yc3_40 := Y.c3
  have Yc4_40 := Y.c4
  have Yc5_40 := Y.c5
  go_wp2_with fail
  refine (awake_any _ (T.later BB)).mono ?_
  rintro e w17 ⟨rfl, b17⟩
  clear XNc0_38 XNc1_38 XNc2_38 XNc3_38 XNc4_38 XNc5_38
  clear Xc0_39 Xc1_39 Xc2_39 Xc3_39 Xc4_39 Xc5_39
  clear Yc0_40 Yc1_40 Yc2_40 Yc3_40 Yc4_40 Yc5_40
  replace X := X.later (b17.mono X.lt)
  replace D := D.later (b17.mono D.lt)
  replace Y := Y.later (b17.mono Y.lt)
  replace F := F.later (b17.mono F.lt)
  replace L := L.later (b17.mono L.lt)
  replace M := M.later (b17.mono M.lt)
  replace XN := XN.later (b17.mono XN.lt)
  replace BB := BB.trans (b17.mono BB.size)
  clear b17 
  have XNc0_41 := XN.c0
  have XNc1_41 := XN.c1
  have XNc2_41 := XN.c2
  have XNc3_41 := XN.c3
  have XNc4_41 := XN.c4
  have XNc5_41 := XN.c5
  have Xc0_42 := X.c0
  have Xc1_42 := X.c1
  have Xc2_42 := X.c2
  have Xc3_42 := X.c3
  have Xc4_42 := X.c4
  have Xc5_42 := X.c5
  have Yc0_43 := Y.c0
  have Yc1_43 := Y.c1
  have Yc2_43 := Y.c2
  have Yc3_43 := Y.c3
  have Yc4_43 := Y.c4
  have Yc5_43 := Y.c5
  go_wp2
  go_ret
  exact ⟨rfl, BB⟩

set_option maxRecDepth 100000 in
set_option maxHeartbeats 16000000 in
theorem torn_po1 (key : Nat) (ep ser siz tail num a b : Int) (how : Int) (k1 : ¬ how = 1) (k2 : ¬ how = 2) (l1 : ser < 1099511627776) (l0 : 0 < ser) (C F1 Z : ByteArray) (G : ByteArray) (zF : F1.size = 64) (_zC : C.size = 64) (_zZ : Z.size = 64) (zG : G.size = 64)
    (hPl : ∀ w, Calls Tryd.prog 10 #[.agg #[.int .u64 ((key : Nat) : Int), .int .i64 (ep), .int .i64 (ser), .int .i64 (siz), .int .i64 (tail), .int .i64 (num)]] w fun e w' => e = .returned (.agg #[.int .u64 ((key : Nat) : Int), .int .i64 (ep), .int .i64 (ser), .int .i64 (siz), .int .i64 (tail), .int .i64 (num)]) ∧ Below w.heap.size w w')
    (hRc : ∀ w, Calls Tryd.prog 9 #[.agg #[.int .u64 ((key : Nat) : Int), .int .i64 (ep), .int .i64 (ser), .int .i64 (siz), .int .i64 (tail), .int .i64 (num)]] w fun e w' => e = .returned (.int .i64 0) ∧ Below w.heap.size w w')
    (hN : ∀ w, Calls Tryd.prog 20 #[.agg #[.int .u64 ((key : Nat) : Int), .int .i64 (ep), .int .i64 (ser), .int .i64 (siz), .int .i64 (tail), .int .i64 (num)], .int .i64 a, .int .i64 b] w fun e w' => e = .returned (.tuple #[.agg #[.int .u64 ((key : Nat) : Int), .int .i64 (ep), .int .i64 (ser + 1), .int .i64 (siz), .int .i64 (a), .int .i64 (b)], .int .i64 0]) ∧ Below w.heap.size w w')
    (hE1 : ∀ w, Tab w → Calls Tryd.prog 11 #[.agg #[.int .u64 ((key : Nat) : Int), .int .i64 (ep), .int .i64 (ser), .int .i64 (siz), .int .i64 (tail), .int .i64 (num)]] w fun e w' => e = .returned (.tuple #[.string C, .int .i64 0]) ∧ Below w.heap.size w w')
    (hE2 : ∀ w, Tab w → Calls Tryd.prog 11 #[.agg #[.int .u64 ((key : Nat) : Int), .int .i64 (ep), .int .i64 (ser + 1), .int .i64 (siz), .int .i64 (a), .int .i64 (b)]] w fun e w' => e = .returned (.tuple #[.string F1, .int .i64 0]) ∧ Below w.heap.size w w')
    (hS1 : ∀ w, Calls Tryd.prog 15 #[.agg #[.int .u64 ((key : Nat) : Int), .int .i64 (ep), .int .i64 (ser), .int .i64 (siz), .int .i64 (tail), .int .i64 (num)]] w fun e w' => e = .returned (.int .i64 1) ∧ Below w.heap.size w w')
    (hS2 : ∀ w, Calls Tryd.prog 15 #[.agg #[.int .u64 ((key : Nat) : Int), .int .i64 (ep), .int .i64 (ser + 1), .int .i64 (siz), .int .i64 (a), .int .i64 (b)]] w fun e w' => e = .returned (.int .i64 0) ∧ Below w.heap.size w w')
    (hP : ∀ w, Tab w → Calls Tryd.prog 18 #[.string G, .string C] w fun e w' => e = .returned (.tuple #[.agg #[.int .u64 ((key : Nat) : Int), .int .i64 (ep), .int .i64 (ser), .int .i64 (siz), .int .i64 (tail), .int .i64 (num)], .int .i64 (1), .int .i64 0]) ∧ Below w.heap.size w w')
    (hSx : ∀ w, Calls Tryd.prog 15 #[.agg #[.int .u64 ((key : Nat) : Int), .int .i64 (ep), .int .i64 (ser), .int .i64 (siz), .int .i64 (tail), .int .i64 (num)]] w fun e w' => e = .returned (.int .i64 (1)) ∧ Below w.heap.size w w')
    (hZ : Hid (str (List.replicate 64 0) = Z))
    (hE3 : ∀ w, Tab w → Calls Tryd.prog 11 #[.agg #[.int .u64 ((key : Nat) : Int), .int .i64 (ep), .int .i64 (ser - 1), .int .i64 (siz), .int .i64 (tail), .int .i64 (num)]] w fun e w' => e = .returned (.tuple #[.string G, .int .i64 0]) ∧ Below w.heap.size w w')
    (W : World) (T : Tab W) : Calls Tryd.prog 7 #[.agg #[.int .u64 ((key : Nat) : Int), .int .i64 (ep), .int .i64 (ser), .int .i64 (siz), .int .i64 (tail), .int .i64 (num)], .agg #[.int .i64 a, .int .i64 b], .int .i64 how] W fun e w' => e = .returned (.bool true) ∧ Below W.heap.size W w' := by
  have BB := Below.refl W.heap.size W
  have b1 := below_alloc W (.cells #[.int .u64 ((key : Nat) : Int), .int .i64 (ep), .int .i64 (ser), .int .i64 (siz), .int .i64 (tail), .int .i64 (num)] 24)
  have X : BoxC (W.alloc (.cells #[.int .u64 ((key : Nat) : Int), .int .i64 (ep), .int .i64 (ser), .int .i64 (siz), .int .i64 (tail), .int .i64 (num)] 24)) W.heap.size (key) (ep) (ser) (siz) (tail) (num) := boxC W (key) (ep) (ser) (siz) (tail) (num) 24
  replace BB := BB.trans (b1.mono BB.size)
  clear b1
  have Xc0_1 := X.c0
  have Xc1_1 := X.c1
  have Xc2_1 := X.c2
  have Xc3_1 := X.c3
  have Xc4_1 := X.c4
  have Xc5_1 := X.c5
  have b2 := below_alloc (W.alloc (.cells #[.int .u64 ((key : Nat) : Int), .int .i64 (ep), .int .i64 (ser), .int .i64 (siz), .int .i64 (tail), .int .i64 (num)] 24)) (.cells #[.int .i64 a, .int .i64 b] 49)
  have D : R2 ((W.alloc (.cells #[.int .u64 ((key : Nat) : Int), .int .i64 (ep), .int .i64 (ser), .int .i64 (siz), .int .i64 (tail), .int .i64 (num)] 24)).alloc (.cells #[.int .i64 a, .int .i64 b] 49)) (W.alloc (.cells #[.int .u64 ((key : Nat) : Int), .int .i64 (ep), .int .i64 (ser), .int .i64 (siz), .int .i64 (tail), .int .i64 (num)] 24)).heap.size (.int .i64 a) (.int .i64 b) := r2_new _ _ _ _
  simp only [World.size_alloc] at D
  replace X := X.later (b2.mono X.lt)
  replace BB := BB.trans (b2.mono BB.size)
  clear b2
  have Xc0_2 := X.c0
  have Xc1_2 := X.c1
  have Xc2_2 := X.c2
  have Xc3_2 := X.c3
  have Xc4_2 := X.c4
  have Xc5_2 := X.c5
  have Dc0_3 := D.c0
  have Dc1_3 := D.c1
  go_enter Tryd.func7, Tryd.ntmps7
  go_wp2_with fail
  refine (hPl _).mono ?_
  rintro e w3 ⟨rfl, b3⟩
  clear Xc0_2 Xc1_2 Xc2_2 Xc3_2 Xc4_2 Xc5_2
  clear Dc0_3 Dc1_3
  clear Xc0_1 Xc1_1 Xc2_1 Xc3_1 Xc4_1 Xc5_1
  replace X := X.later (b3.mono X.lt)
  replace D := D.later (b3.mono D.lt)
  replace BB := BB.trans (b3.mono BB.size)
  clear b3 
  have Xc0_4 := X.c0
  have Xc1_4 := X.c1
  have Xc2_4 := X.c2
  have Xc3_4 := X.c3
  have Xc4_4 := X.c4
  have Xc5_4 := X.c5
  have Dc0_5 := D.c0
  have Dc1_5 := D.c1
  go_wp2_with fail
  refine (hRc _).mono ?_
  rintro e w4 ⟨rfl, b4⟩
  clear Xc0_4 Xc1_4 Xc2_4 Xc3_4 Xc4_4 Xc5_4
  clear Dc0_5 Dc1_5
  replace X := X.later (b4.mono X.lt)
  replace D := D.later (b4.mono D.lt)
  replace BB := BB.trans (b4.mono BB.size)
  clear b4 
  have Xc0_6 := X.c0
  have Xc1_6 := X.c1
  have Xc2_6 := X.c2
  have Xc3_6 := X.c3
  have Xc4_6 := X.c4
  have Xc5_6 := X.c5
  have Dc0_7 := D.c0
  have Dc1_7 := D.c1
  go_wp2_with fail
  refine (hN _).mono ?_
  rintro e w5 ⟨rfl, b5⟩
  clear Xc0_6 Xc1_6 Xc2_6 Xc3_6 Xc4_6 Xc5_6
  clear Dc0_7 Dc1_7
  replace X := X.later (b5.mono X.lt)
  replace D := D.later (b5.mono D.lt)
  replace BB := BB.trans (b5.mono BB.size)
  clear b5 
  have Xc0_8 := X.c0
  have Xc1_8 := X.c1
  have Xc2_8 := X.c2
  have Xc3_8 := X.c3
  have Xc4_8 := X.c4
  have Xc5_8 := X.c5
  have Dc0_9 := D.c0
  have Dc1_9 := D.c1
  have b6 := below_alloc w5 (.cells #[.int .u64 ((key : Nat) : Int), .int .i64 (ep), .int .i64 (ser + 1), .int .i64 (siz), .int .i64 (a), .int .i64 (b)] 24)
  have Y : BoxC (w5.alloc (.cells #[.int .u64 ((key : Nat) : Int), .int .i64 (ep), .int .i64 (ser + 1), .int .i64 (siz), .int .i64 (a), .int .i64 (b)] 24)) w5.heap.size (key) (ep) (ser + 1) (siz) (a) (b) := boxC w5 (key) (ep) (ser + 1) (siz) (a) (b) 24
  replace X := X.later (b6.mono X.lt)
  replace D := D.later (b6.mono D.lt)
  replace BB := BB.trans (b6.mono BB.size)
  clear b6
  have Xc0_10 := X.c0
  have Xc1_10 := X.c1
  have Xc2_10 := X.c2
  have Xc3_10 := X.c3
  have Xc4_10 := X.c4
  have Xc5_10 := X.c5
  have Dc0_11 := D.c0
  have Dc1_11 := D.c1
  have Yc0_12 := Y.c0
  have Yc1_12 := Y.c1
  have Yc2_12 := Y.c2
  have Yc3_12 := Y.c3
  have Yc4_12 := Y.c4
  have Yc5_12 := Y.c5
  go_wp2_with fail
  refine (hE1 _ (T.later BB)).mono ?_
  rintro e w7 ⟨rfl, b7⟩
  clear Xc0_10 Xc1_10 Xc2_10 Xc3_10 Xc4_10 Xc5_10
  clear Dc0_11 Dc1_11
  clear Yc0_12 Yc1_12 Yc2_12 Yc3_12 Yc4_12 Yc5_12
  clear Xc0_8 Xc1_8 Xc2_8 Xc3_8 Xc4_8 Xc5_8 Dc0_9 Dc1_9
  replace X := X.later (b7.mono X.lt)
  replace D := D.later (b7.mono D.lt)
  replace Y := Y.later (b7.mono Y.lt)
  replace BB := BB.trans (b7.mono BB.size)
  clear b7 
  have Xc0_13 := X.c0
  have Xc1_13 := X.c1
  have Xc2_13 := X.c2
  have Xc3_13 := X.c3
  have Xc4_13 := X.c4
  have Xc5_13 := X.c5
  have Dc0_14 := D.c0
  have Dc1_14 := D.c1
  have Yc0_15 := Y.c0
  have Yc1_15 := Y.c1
  have Yc2_15 := Y.c2
  have Yc3_15 := Y.c3
  have Yc4_15 := Y.c4
  have Yc5_15 := Y.c5
  go_wp2_with fail
  refine (hE2 _ (T.later BB)).mono ?_
  rintro e w8 ⟨rfl, b8⟩
  clear Xc0_13 Xc1_13 Xc2_13 Xc3_13 Xc4_13 Xc5_13
  clear Dc0_14 Dc1_14
  clear Yc0_15 Yc1_15 Yc2_15 Yc3_15 Yc4_15 Yc5_15
  replace X := X.later (b8.mono X.lt)
  replace D := D.later (b8.mono D.lt)
  replace Y := Y.later (b8.mono Y.lt)
  replace BB := BB.trans (b8.mono BB.size)
  clear b8 
  have Xc0_16 := X.c0
  have Xc1_16 := X.c1
  have Xc2_16 := X.c2
  have Xc3_16 := X.c3
  have Xc4_16 := X.c4
  have Xc5_16 := X.c5
  have Dc0_17 := D.c0
  have Dc1_17 := D.c1
  have Yc0_18 := Y.c0
  have Yc1_18 := Y.c1
  have Yc2_18 := Y.c2
  have Yc3_18 := Y.c3
  have Yc4_18 := Y.c4
  have Yc5_18 := Y.c5
  clear Xc0_16 Xc1_16 Xc2_16 Xc3_16 Xc4_16 Xc5_16
  clear Dc0_17 Dc1_17
  clear Yc0_18 Yc1_18 Yc2_18 Yc3_18 Yc4_18 Yc5_18
  have hne9 := later_ne w8
  have qX0 : ∀ p : Later w8, p.val.cell? ⟨W.heap.size, 0, none⟩ = some (.int .u64 ((key : Nat) : Int)) := fun p => (X.later (p.below.mono X.lt)).c0
  have qX1 : ∀ p : Later w8, p.val.cell? ⟨W.heap.size, 1, none⟩ = some (.int .i64 (ep)) := fun p => (X.later (p.below.mono X.lt)).c1
  have qX2 : ∀ p : Later w8, p.val.cell? ⟨W.heap.size, 2, none⟩ = some (.int .i64 (ser)) := fun p => (X.later (p.below.mono X.lt)).c2
  have qX3 : ∀ p : Later w8, p.val.cell? ⟨W.heap.size, 3, none⟩ = some (.int .i64 (siz)) := fun p => (X.later (p.below.mono X.lt)).c3
  have qX4 : ∀ p : Later w8, p.val.cell? ⟨W.heap.size, 4, none⟩ = some (.int .i64 (tail)) := fun p => (X.later (p.below.mono X.lt)).c4
  have qX5 : ∀ p : Later w8, p.val.cell? ⟨W.heap.size, 5, none⟩ = some (.int .i64 (num)) := fun p => (X.later (p.below.mono X.lt)).c5
  have qY0 : ∀ p : Later w8, p.val.cell? ⟨w5.heap.size, 0, none⟩ = some (.int .u64 ((key : Nat) : Int)) := fun p => (Y.later (p.below.mono Y.lt)).c0
  have qY1 : ∀ p : Later w8, p.val.cell? ⟨w5.heap.size, 1, none⟩ = some (.int .i64 (ep)) := fun p => (Y.later (p.below.mono Y.lt)).c1
  have qY2 : ∀ p : Later w8, p.val.cell? ⟨w5.heap.size, 2, none⟩ = some (.int .i64 (ser + 1)) := fun p => (Y.later (p.below.mono Y.lt)).c2
  have qY3 : ∀ p : Later w8, p.val.cell? ⟨w5.heap.size, 3, none⟩ = some (.int .i64 (siz)) := fun p => (Y.later (p.below.mono Y.lt)).c3
  have qY4 : ∀ p : Later w8, p.val.cell? ⟨w5.heap.size, 4, none⟩ = some (.int .i64 (a)) := fun p => (Y.later (p.below.mono Y.lt)).c4
  have qY5 : ∀ p : Later w8, p.val.cell? ⟨w5.heap.size, 5, none⟩ = some (.int .i64 (b)) := fun p => (Y.later (p.below.mono Y.lt)).c5
  go_wp2
  refine wp_region_later (by kernel_rfl) (by kernel_rfl) ?_
  (repeat (first | go_big_quiet_skip | (go_big_quiet_want; go_big_quiet_op; go_big_quiet_on)))
  (go_big_quiet_want; go_big_quiet_op; apply Exists.intro; refine ⟨fun p => ?_, ?_⟩; (· exact later_of (hS1 _)); go_big_quiet_on)
  (repeat (first | go_big_quiet_skip | (go_big_quiet_want; go_big_quiet_op; go_big_quiet_on)))
  (go_big_quiet_want; go_big_quiet_op; apply Exists.intro; refine ⟨fun p => ?_, ?_⟩; (· exact later_of (hS2 _)); go_big_quiet_on)
  (repeat (first | go_big_quiet_skip | (go_big_quiet_want; go_big_quiet_op; go_big_quiet_on)))
  refine wpQuiet_nil ?_
  rintro _ ⟨p9, rfl⟩
  replace X := X.later (p9.below.mono X.lt)
  replace D := D.later (p9.below.mono D.lt)
  replace Y := Y.later (p9.below.mono Y.lt)
  replace BB := BB.trans (p9.below.mono BB.size)
  clear hne9 qX0 qX1 qX2 qX3 qX4 qX5 qY0 qY1 qY2 qY3 qY4 qY5
  have hmk : (Instr.makeSlice 47 (.int .i64 64) (.int .i64 64)).run Tryd.prog p9.val = .ok (.slice (some ⟨p9.val.heap.size, 0, none⟩) 64 64) (p9.val.alloc (.cells (zs 64) 5)) := make_bytes (N := 64) (by omega) _
  have hcv : (convert 47 9 (.slice (some ⟨p9.val.heap.size, 0, none⟩) 64 64)).run Tryd.prog (p9.val.alloc (.cells (zs 64) 5)) = .ok (.string Z) (p9.val.alloc (.cells (zs 64) 5)) := by rw [← hZ.out]; exact conv_rep (fun i hi => by simp [zs_get hi])
  generalize hzz : zs 64 = ZZ at *
  have b10 := below_alloc p9.val (.cells ZZ 5)
  replace X := X.later (b10.mono X.lt)
  replace D := D.later (b10.mono D.lt)
  replace Y := Y.later (b10.mono Y.lt)
  replace BB := BB.trans (b10.mono BB.size)
  clear b10
  have Xc0_19 := X.c0
  have Xc1_19 := X.c1
  have Xc2_19 := X.c2
  have Xc3_19 := X.c3
  have Xc4_19 := X.c4
  have Xc5_19 := X.c5
  have XI := X.later ((below_alloc (p9.val.alloc (.cells ZZ 5)) (.cells #[.int .u64 ((key : Nat) : Int), .int .i64 (ep), .int .i64 (ser), .int .i64 (siz), .int .i64 (tail), .int .i64 (num)] 24)).mono X.lt)
  have XIc := XI.c2
  clear XI
  have b11 := below_alloc (p9.val.alloc (.cells ZZ 5)) (.cells #[.int .u64 ((key : Nat) : Int), .int .i64 (ep), .int .i64 (ser - 1), .int .i64 (siz), .int .i64 (tail), .int .i64 (num)] 24)
  have F : BoxC ((p9.val.alloc (.cells ZZ 5)).alloc (.cells #[.int .u64 ((key : Nat) : Int), .int .i64 (ep), .int .i64 (ser - 1), .int .i64 (siz), .int .i64 (tail), .int .i64 (num)] 24)) (p9.val.alloc (.cells ZZ 5)).heap.size (key) (ep) (ser - 1) (siz) (tail) (num) := boxC (p9.val.alloc (.cells ZZ 5)) (key) (ep) (ser - 1) (siz) (tail) (num) 24
  simp only [World.size_alloc] at F
  replace X := X.later (b11.mono X.lt)
  replace D := D.later (b11.mono D.lt)
  replace Y := Y.later (b11.mono Y.lt)
  replace BB := BB.trans (b11.mono BB.size)
  clear b11
  have Xc0_20 := X.c0
  have Xc1_20 := X.c1
  have Xc2_20 := X.c2
  have Xc3_20 := X.c3
  have Xc4_20 := X.c4
  have Xc5_20 := X.c5
  have Fc0_21 := F.c0
  have Fc1_21 := F.c1
  have Fc2_21 := F.c2
  have Fc3_21 := F.c3
  have Fc4_21 := F.c4
  have Fc5_21 := F.c5
  go_wp2_with fail
  refine (hE3 _ (T.later BB)).mono ?_
  rintro e w12 ⟨rfl, b12⟩
  clear Xc0_20 Xc1_20 Xc2_20 Xc3_20 Xc4_20 Xc5_20
  clear Fc0_21 Fc1_21 Fc2_21 Fc3_21 Fc4_21 Fc5_21
  clear XIc Xc0_19 Xc1_19 Xc2_19 Xc3_19 Xc4_19 Xc5_19
  replace X := X.later (b12.mono X.lt)
  replace D := D.later (b12.mono D.lt)
  replace Y := Y.later (b12.mono Y.lt)
  replace F := F.later (b12.mono F.lt)
  replace BB := BB.trans (b12.mono BB.size)
  clear b12 hmk hcv
  have Xc0_22 := X.c0
  have Xc1_22 := X.c1
  have Xc2_22 := X.c2
  have Xc3_22 := X.c3
  have Xc4_22 := X.c4
  have Xc5_22 := X.c5
  have Fc0_23 := F.c0
  have Fc1_23 := F.c1
  have Fc2_23 := F.c2
  have Fc3_23 := F.c3
  have Fc4_23 := F.c4
  have Fc5_23 := F.c5
  have b13 := below_alloc w12 (.cells #[.string G, .string C] 9)
  have L : R2 (w12.alloc (.cells #[.string G, .string C] 9)) w12.heap.size (.string G) (.string C) := r2_new _ _ _ _
  replace X := X.later (b13.mono X.lt)
  replace D := D.later (b13.mono D.lt)
  replace Y := Y.later (b13.mono Y.lt)
  replace F := F.later (b13.mono F.lt)
  replace BB := BB.trans (b13.mono BB.size)
  clear b13
  have Xc0_24 := X.c0
  have Xc1_24 := X.c1
  have Xc2_24 := X.c2
  have Xc3_24 := X.c3
  have Xc4_24 := X.c4
  have Xc5_24 := X.c5
  have Fc0_25 := F.c0
  have Fc1_25 := F.c1
  have Fc2_25 := F.c2
  have Fc3_25 := F.c3
  have Fc4_25 := F.c4
  have Fc5_25 := F.c5
  have Lc0_26 := L.c0
  have Lc1_26 := L.c1
  have Xc0_27 := X.c0
  have Xc1_27 := X.c1
  have Xc2_27 := X.c2
  have Xc3_27 := X.c3
  have Xc4_27 := X.c4
  have Xc5_27 := X.c5
  go_wp2_with fail
  refine (hS1 _).mono ?_
  rintro e w14 ⟨rfl, b14⟩
  clear Xc0_27 Xc1_27 Xc2_27 Xc3_27 Xc4_27 Xc5_27
  clear Fc0_25 Fc1_25 Fc2_25 Fc3_25 Fc4_25 Fc5_25
  clear Lc0_26 Lc1_26
  clear Xc0_22 Xc1_22 Xc2_22 Xc3_22 Xc4_22 Xc5_22 Fc0_23 Fc1_23 Fc2_23 Fc3_23 Fc4_23 Fc5_23 Xc0_24 Xc1_24 Xc2_24 Xc3_24 Xc4_24 Xc5_24
  replace X := X.later (b14.mono X.lt)
  replace D := D.later (b14.mono D.lt)
  replace Y := Y.later (b14.mono Y.lt)
  replace F := F.later (b14.mono F.lt)
  replace L := L.later (b14.mono L.lt)
  replace BB := BB.trans (b14.mono BB.size)
  clear b14 
  have Xc0_28 := X.c0
  have Xc1_28 := X.c1
  have Xc2_28 := X.c2
  have Xc3_28 := X.c3
  have Xc4_28 := X.c4
  have Xc5_28 := X.c5
  have Fc0_29 := F.c0
  have Fc1_29 := F.c1
  have Fc2_29 := F.c2
  have Fc3_29 := F.c3
  have Fc4_29 := F.c4
  have Fc5_29 := F.c5
  have Lc0_30 := L.c0
  have Lc1_30 := L.c1
  clear Xc0_28 Xc1_28 Xc2_28 Xc3_28 Xc4_28 Xc5_28
  clear Fc0_29 Fc1_29 Fc2_29 Fc3_29 Fc4_29 Fc5_29
  clear Lc0_30 Lc1_30
  go_wp2
  have TQ := T.later BB
  refine wp_region_specs_mid (n := 12) [.val (.slice (some ⟨w12.heap.size, 0, none⟩) 2 2), .val (.pointer (some ⟨w12.heap.size, 0, none⟩)), .val (.string G), .val (.slice (some ⟨w12.heap.size, 0, none⟩) 2 2), .val (.pointer (some ⟨w12.heap.size, 1, none⟩)), .val (.string C), .val (.tuple #[.agg #[.int .u64 ((key : Nat) : Int), .int .i64 (ep), .int .i64 (ser), .int .i64 (siz), .int .i64 (tail), .int .i64 (num)], .int .i64 (1), .int .i64 0]), .val (.tuple #[.agg #[.int .u64 ((key : Nat) : Int), .int .i64 (ep), .int .i64 (ser), .int .i64 (siz), .int .i64 (tail), .int .i64 (num)], .int .i64 (1), .int .i64 0]), .val (.agg #[.int .u64 ((key : Nat) : Int), .int .i64 (ep), .int .i64 (ser), .int .i64 (siz), .int .i64 (tail), .int .i64 (num)]), .val (.int .i64 (1)), .val (.int .i64 0), .nbox w14.heap.size, .val (undef), .val (.int .i64 (1)), .val (.int .i64 0)] [.val (.slice (some ⟨w12.heap.size, 0, none⟩) 2 2), .val (.pointer (some ⟨w12.heap.size, 0, none⟩)), .val (.string G), .val (.slice (some ⟨w12.heap.size, 0, none⟩) 2 2), .val (.pointer (some ⟨w12.heap.size, 1, none⟩)), .val (.string C), .val (.tuple #[.agg #[.int .u64 ((key : Nat) : Int), .int .i64 (ep), .int .i64 (ser), .int .i64 (siz), .int .i64 (tail), .int .i64 (num)], .int .i64 (1), .int .i64 0]), .val (.tuple #[.agg #[.int .u64 ((key : Nat) : Int), .int .i64 (ep), .int .i64 (ser), .int .i64 (siz), .int .i64 (tail), .int .i64 (num)], .int .i64 (1), .int .i64 0]), .val (.agg #[.int .u64 ((key : Nat) : Int), .int .i64 (ep), .int .i64 (ser), .int .i64 (siz), .int .i64 (tail), .int .i64 (num)]), .val (.int .i64 (1)), .val (.int .i64 0), .sbox w14.heap.size (key) (ep) (ser) (siz) (tail) (num), .val (undef), .val (.int .i64 (1)), .val (.int .i64 0)] (by kernel_rfl) (by kernel_rfl) rfl rfl rfl ?_ ?_ ?_ ?_
  · refine ⟨?_, ?_⟩
    · intro hp A w1 hb ho hd
      clear hp
      have e17 : A.tmps[17]?.getD undef = .slice (some ⟨w12.heap.size, 0, none⟩) 2 2 := olds_get ho 17 (by kernel_rfl)
      refine ⟨rfl, goes_value (v := .slice (some ⟨w12.heap.size, 0, none⟩) 2 2) ?_ rfl⟩
      simp [go_sem, e17]
    refine ⟨?_, ?_⟩
    · intro hp A w1 hb ho hd
      clear hp
      have e107 : A.tmps[107]?.getD undef = .slice (some ⟨w12.heap.size, 0, none⟩) 2 2 := getq (hd _ (Array.mem_of_getElem? (i := 0) rfl) rfl _ _ rfl rfl)
      refine ⟨rfl, goes_value (v := .pointer (some ⟨w12.heap.size, 0, none⟩)) ?_ rfl⟩
      simp [go_sem, e107]
    refine ⟨?_, ?_⟩
    · intro hp A w1 hb ho hd
      clear hp
      have e108 : A.tmps[108]?.getD undef = .pointer (some ⟨w12.heap.size, 0, none⟩) := getq (hd _ (Array.mem_of_getElem? (i := 0) rfl) rfl _ _ rfl rfl)
      have cz := (L.later (hb.mono L.lt)).c0
      refine ⟨rfl, goes_value (v := .string G) ?_ rfl⟩
      simp [go_sem, e108, cz]
    refine ⟨?_, ?_⟩
    · intro hp A w1 hb ho hd
      clear hp
      have e17 : A.tmps[17]?.getD undef = .slice (some ⟨w12.heap.size, 0, none⟩) 2 2 := olds_get ho 17 (by kernel_rfl)
      refine ⟨rfl, goes_value (v := .slice (some ⟨w12.heap.size, 0, none⟩) 2 2) ?_ rfl⟩
      simp [go_sem, e17]
    refine ⟨?_, ?_⟩
    · intro hp A w1 hb ho hd
      clear hp
      have e110 : A.tmps[110]?.getD undef = .slice (some ⟨w12.heap.size, 0, none⟩) 2 2 := getq (hd _ (Array.mem_of_getElem? (i := 0) rfl) rfl _ _ rfl rfl)
      refine ⟨rfl, goes_value (v := .pointer (some ⟨w12.heap.size, 1, none⟩)) ?_ rfl⟩
      simp [go_sem, e110]
    refine ⟨?_, ?_⟩
    · intro hp A w1 hb ho hd
      clear hp
      have e111 : A.tmps[111]?.getD undef = .pointer (some ⟨w12.heap.size, 1, none⟩) := getq (hd _ (Array.mem_of_getElem? (i := 0) rfl) rfl _ _ rfl rfl)
      have cz := (L.later (hb.mono L.lt)).c1
      refine ⟨rfl, goes_value (v := .string C) ?_ rfl⟩
      simp [go_sem, e111, cz]
    refine ⟨?_, ?_⟩
    · intro hp A w1 hb ho hd
      clear hp
      have e109 : A.tmps[109]?.getD undef = .string G := getq (hd _ (Array.mem_of_getElem? (i := 0) rfl) rfl _ _ rfl rfl)
      have e112 : A.tmps[112]?.getD undef = .string C := getq (hd _ (Array.mem_of_getElem? (i := 1) rfl) rfl _ _ rfl rfl)
      refine ⟨rfl, goes_call (f := 18) (args := #[.string G, .string C]) ?_ (hP w1 (TQ.later hb))⟩
      simp [go_sem, e109, e112]
    refine ⟨?_, ?_⟩
    · intro hp A w1 hb ho hd
      clear hp
      have e113 : A.tmps[113]?.getD undef = .tuple #[.agg #[.int .u64 ((key : Nat) : Int), .int .i64 (ep), .int .i64 (ser), .int .i64 (siz), .int .i64 (tail), .int .i64 (num)], .int .i64 (1), .int .i64 0] := getq (hd _ (Array.mem_of_getElem? (i := 0) rfl) rfl _ _ rfl rfl)
      refine ⟨rfl, goes_value (v := .tuple #[.agg #[.int .u64 ((key : Nat) : Int), .int .i64 (ep), .int .i64 (ser), .int .i64 (siz), .int .i64 (tail), .int .i64 (num)], .int .i64 (1), .int .i64 0]) ?_ rfl⟩
      simp [go_sem, e113]
    refine ⟨?_, ?_⟩
    · intro hp A w1 hb ho hd
      clear hp
      have e106 : A.tmps[106]?.getD undef = .tuple #[.agg #[.int .u64 ((key : Nat) : Int), .int .i64 (ep), .int .i64 (ser), .int .i64 (siz), .int .i64 (tail), .int .i64 (num)], .int .i64 (1), .int .i64 0] := getq (hd _ (Array.mem_of_getElem? (i := 0) rfl) rfl _ _ rfl rfl)
      refine ⟨rfl, goes_value (v := .agg #[.int .u64 ((key : Nat) : Int), .int .i64 (ep), .int .i64 (ser), .int .i64 (siz), .int .i64 (tail), .int .i64 (num)]) ?_ rfl⟩
      simp [go_sem, e106]
    refine ⟨?_, ?_⟩
    · intro hp A w1 hb ho hd
      clear hp
      have e106 : A.tmps[106]?.getD undef = .tuple #[.agg #[.int .u64 ((key : Nat) : Int), .int .i64 (ep), .int .i64 (ser), .int .i64 (siz), .int .i64 (tail), .int .i64 (num)], .int .i64 (1), .int .i64 0] := getq (hd _ (Array.mem_of_getElem? (i := 0) rfl) rfl _ _ rfl rfl)
      refine ⟨rfl, goes_value (v := .int .i64 (1)) ?_ rfl⟩
      simp [go_sem, e106]
    refine ⟨?_, ?_⟩
    · intro hp A w1 hb ho hd
      clear hp
      have e106 : A.tmps[106]?.getD undef = .tuple #[.agg #[.int .u64 ((key : Nat) : Int), .int .i64 (ep), .int .i64 (ser), .int .i64 (siz), .int .i64 (tail), .int .i64 (num)], .int .i64 (1), .int .i64 0] := getq (hd _ (Array.mem_of_getElem? (i := 0) rfl) rfl _ _ rfl rfl)
      refine ⟨rfl, goes_value (v := .int .i64 0) ?_ rfl⟩
      simp [go_sem, e106]
    refine ⟨?_, ?_⟩
    · intro hp A w1 hb ho hd
      clear hp
      refine ⟨rfl, goes_alloc (v := .pointer (some ⟨w1.heap.size, 0, none⟩)) (o := .cells #[.int .u64 ((0 : Nat) : Int), .int .i64 0, .int .i64 0, .int .i64 0, .int .i64 0, .int .i64 0] 24) ?_ ⟨_, rfl, hb.size, boxC _ 0 0 0 0 0 0 24⟩⟩
      simp [go_sem]
    refine ⟨?_, ?_⟩
    · exact fun hp => absurd hp (by decide)
    refine ⟨?_, ?_⟩
    · intro hp A w1 hb ho hd
      clear hp
      have e115 : A.tmps[115]?.getD undef = .int .i64 (1) := getq (hd _ (Array.mem_of_getElem? (i := 0) rfl) rfl _ _ rfl rfl)
      refine ⟨rfl, goes_value (v := .int .i64 (1)) ?_ rfl⟩
      simp [go_sem, e115]
    refine ⟨?_, ?_⟩
    · intro hp A w1 hb ho hd
      clear hp
      have e116 : A.tmps[116]?.getD undef = .int .i64 0 := getq (hd _ (Array.mem_of_getElem? (i := 0) rfl) rfl _ _ rfl rfl)
      refine ⟨rfl, goes_value (v := .int .i64 0) ?_ rfl⟩
      simp [go_sem, e116]
    trivial
  · refine ⟨?_, ?_⟩
    · exact not_needed (by kernel_rfl)
    refine ⟨?_, ?_⟩
    · exact not_needed (by kernel_rfl)
    refine ⟨?_, ?_⟩
    · exact not_needed (by kernel_rfl)
    refine ⟨?_, ?_⟩
    · exact not_needed (by kernel_rfl)
    refine ⟨?_, ?_⟩
    · exact not_needed (by kernel_rfl)
    refine ⟨?_, ?_⟩
    · exact not_needed (by kernel_rfl)
    refine ⟨?_, ?_⟩
    · exact not_needed (by kernel_rfl)
    refine ⟨?_, ?_⟩
    · exact not_needed (by kernel_rfl)
    refine ⟨?_, ?_⟩
    · exact not_needed (by kernel_rfl)
    refine ⟨?_, ?_⟩
    · intro hp A w1 hb ho hd
      clear hp
      have e106 : A.tmps[106]?.getD undef = .tuple #[.agg #[.int .u64 ((key : Nat) : Int), .int .i64 (ep), .int .i64 (ser), .int .i64 (siz), .int .i64 (tail), .int .i64 (num)], .int .i64 (1), .int .i64 0] := getq (hd _ (Array.mem_of_getElem? (i := 0) rfl) rfl _ _ rfl rfl)
      refine ⟨rfl, goes_value (v := .int .i64 (1)) ?_ rfl⟩
      simp [go_sem, e106]
    refine ⟨?_, ?_⟩
    · intro hp A w1 hb ho hd
      clear hp
      have e106 : A.tmps[106]?.getD undef = .tuple #[.agg #[.int .u64 ((key : Nat) : Int), .int .i64 (ep), .int .i64 (ser), .int .i64 (siz), .int .i64 (tail), .int .i64 (num)], .int .i64 (1), .int .i64 0] := getq (hd _ (Array.mem_of_getElem? (i := 0) rfl) rfl _ _ rfl rfl)
      refine ⟨rfl, goes_value (v := .int .i64 0) ?_ rfl⟩
      simp [go_sem, e106]
    refine ⟨?_, ?_⟩
    · exact not_needed (by kernel_rfl)
    refine ⟨?_, ?_⟩
    · exact not_needed (by kernel_rfl)
    refine ⟨?_, ?_⟩
    · intro hp A w1 hb ho hd
      clear hp
      have e115 : A.tmps[115]?.getD undef = .int .i64 (1) := getq (hd _ (Array.mem_of_getElem? (i := 0) rfl) rfl _ _ rfl rfl)
      refine ⟨rfl, goes_value (v := .int .i64 (1)) ?_ rfl⟩
      simp [go_sem, e115]
    refine ⟨?_, ?_⟩
    · intro hp A w1 hb ho hd
      clear hp
      have e116 : A.tmps[116]?.getD undef = .int .i64 0 := getq (hd _ (Array.mem_of_getElem? (i := 0) rfl) rfl _ _ rfl rfl)
      refine ⟨rfl, goes_value (v := .int .i64 0) ?_ rfl⟩
      simp [go_sem, e116]
    trivial
  · intro A w2 hb ho hd
    obtain ⟨g, hg, hge, Zb⟩ := hd _ (Array.mem_of_getElem? (i := 0) rfl) rfl _ _ rfl rfl
    have e18 := getq hg
    have eV : A.tmps[114]?.getD undef = .agg #[.int .u64 ((key : Nat) : Int), .int .i64 (ep), .int .i64 (ser), .int .i64 (siz), .int .i64 (tail), .int .i64 (num)] := getq (hd _ (Array.mem_of_getElem? (i := 1) rfl) rfl _ _ rfl rfl)
    have zc0 := Zb.c0
    have zc1 := Zb.c1
    have zc2 := Zb.c2
    have zc3 := Zb.c3
    have zc4 := Zb.c4
    have zc5 := Zb.c5
    have zf0 := Zb.fr 0 (by omega)
    have zf1 := Zb.fr 1 (by omega)
    have zf2 := Zb.fr 2 (by omega)
    have zf3 := Zb.fr 3 (by omega)
    have zf4 := Zb.fr 4 (by omega)
    have zf5 := Zb.fr 5 (by omega)
    refine ⟨_, by simp [go_sem, e18, eV, zc0, zc1, zc2, zc3, zc4, zc5, zf0, zf1, zf2, zf3, zf4, zf5]; rfl, ?_, ?_⟩
    · exact BoxC.below Zb hb hge (key) (ep) (ser) (siz) (tail) (num)
    · intro j o d hj hdst h
      match j, hj, hdst, h with
      | 0, _, _, h => exact h
      | 1, _, _, h => exact h
      | 2, _, _, h => exact h
      | 3, _, _, h => exact h
      | 4, _, _, h => exact h
      | 5, _, _, h => exact h
      | 6, _, _, h => exact h
      | 7, _, _, h => exact h
      | 8, _, _, h => exact h
      | 9, _, _, h => exact h
      | 10, _, _, h => exact h
      | 11, hj, hdst, _ =>
        cases hj
        cases hdst
        exact ⟨g, hg, hge, Zb.put (key) (ep) (ser) (siz) (tail) (num)⟩
      | 12, _, _, h => exact h
      | 13, _, _, h => exact h
      | 14, _, _, h => exact h
      | j + 15, hj, _, _ => simp at hj
  intro A w9 hb9 hdf hsz hol hft
  obtain ⟨gx, hgx, hgxe, XN⟩ := hft 11 _ 18 rfl rfl
  have m107 : A.tmps.getD 107 undef = .slice (some ⟨w12.heap.size, 0, none⟩) 2 2 := hft 0 _ 107 rfl rfl
  have m108 : A.tmps.getD 108 undef = .pointer (some ⟨w12.heap.size, 0, none⟩) := hft 1 _ 108 rfl rfl
  have m109 : A.tmps.getD 109 undef = .string G := hft 2 _ 109 rfl rfl
  have m110 : A.tmps.getD 110 undef = .slice (some ⟨w12.heap.size, 0, none⟩) 2 2 := hft 3 _ 110 rfl rfl
  have m111 : A.tmps.getD 111 undef = .pointer (some ⟨w12.heap.size, 1, none⟩) := hft 4 _ 111 rfl rfl
  have m112 : A.tmps.getD 112 undef = .string C := hft 5 _ 112 rfl rfl
  have m113 : A.tmps.getD 113 undef = .tuple #[.agg #[.int .u64 ((key : Nat) : Int), .int .i64 (ep), .int .i64 (ser), .int .i64 (siz), .int .i64 (tail), .int .i64 (num)], .int .i64 (1), .int .i64 0] := hft 6 _ 113 rfl rfl
  have m106 : A.tmps.getD 106 undef = .tuple #[.agg #[.int .u64 ((key : Nat) : Int), .int .i64 (ep), .int .i64 (ser), .int .i64 (siz), .int .i64 (tail), .int .i64 (num)], .int .i64 (1), .int .i64 0] := hft 7 _ 106 rfl rfl
  have m114 : A.tmps.getD 114 undef = .agg #[.int .u64 ((key : Nat) : Int), .int .i64 (ep), .int .i64 (ser), .int .i64 (siz), .int .i64 (tail), .int .i64 (num)] := hft 8 _ 114 rfl rfl
  have m115 : A.tmps.getD 115 undef = .int .i64 (1) := hft 9 _ 115 rfl rfl
  have m116 : A.tmps.getD 116 undef = .int .i64 0 := hft 10 _ 116 rfl rfl
  have m19 : A.tmps.getD 19 undef = .int .i64 (1) := hft 13 _ 19 rfl rfl
  have m20 : A.tmps.getD 20 undef = .int .i64 0 := hft 14 _ 20 rfl rfl
  rename_i KK hKK
  refine hKK _ _ ?_
  show Code.wp _ _ _ A w9
  rw [frame_puts hdf hsz hol]
  simp only [List.foldl_cons, List.foldl_nil, Act.put, Option.getD_some, m107, m108, m109, m110, m111, m112, m113, m106, m114, m115, m116, m19, m20, hgx, List.setIfInBounds_toArray, List.set_cons_succ, List.set_cons_zero]
  clear m107 m108 m109 m110 m111 m112 m113 m106 m114 m115 m116 m19 m20 hft hol hsz hdf hKK hgx
  replace X := X.later (hb9.mono X.lt)
  replace D := D.later (hb9.mono D.lt)
  replace Y := Y.later (hb9.mono Y.lt)
  replace F := F.later (hb9.mono F.lt)
  replace L := L.later (hb9.mono L.lt)
  replace BB := BB.trans (hb9.mono BB.size)
  have XNc0_31 := XN.c0
  have XNc1_31 := XN.c1
  have XNc2_31 := XN.c2
  have XNc3_31 := XN.c3
  have XNc4_31 := XN.c4
  have XNc5_31 := XN.c5
  have Xc0_32 := X.c0
  have Xc1_32 := X.c1
  have Xc2_32 := X.c2
  have Xc3_32 := X.c3
  have Xc4_32 := X.c4
  have Xc5_32 := X.c5
  have Yc0_33 := Y.c0
  have Yc1_33 := Y.c1
  have Yc2_33 := Y.c2
  have Yc3_33 := Y.c3
  have Yc4_33 := Y.c4
  have Yc5_33 := Y.c5
  go_wp2_with fail
  refine (hSx _).mono ?_
  rintro e w15 ⟨rfl, b15⟩
  clear XNc0_31 XNc1_31 XNc2_31 XNc3_31 XNc4_31 XNc5_31
  clear Xc0_32 Xc1_32 Xc2_32 Xc3_32 Xc4_32 Xc5_32
  clear Yc0_33 Yc1_33 Yc2_33 Yc3_33 Yc4_33 Yc5_33
  replace X := X.later (b15.mono X.lt)
  replace D := D.later (b15.mono D.lt)
  replace Y := Y.later (b15.mono Y.lt)
  replace F := F.later (b15.mono F.lt)
  replace L := L.later (b15.mono L.lt)
  replace XN := XN.later (b15.mono XN.lt)
  replace BB := BB.trans (b15.mono BB.size)
  clear b15 
  have XNc0_34 := XN.c0
  have XNc1_34 := XN.c1
  have XNc2_34 := XN.c2
  have XNc3_34 := XN.c3
  have XNc4_34 := XN.c4
  have XNc5_34 := XN.c5
  have Xc0_35 := X.c0
  have Xc1_35 := X.c1
  have Xc2_35 := X.c2
  have Xc3_35 := X.c3
  have Xc4_35 := X.c4
  have Xc5_35 := X.c5
  have Yc0_36 := Y.c0
  have Yc1_36 := Y.c1
  have Yc2_36 := Y.c2
  have Yc3_36 := Y.c3
  have Yc4_36 := Y.c4
  have Yc5_36 := Y.c5
  go_wp2_with fail
  refine (awake_any _ (T.later BB)).mono ?_
  rintro e w16 ⟨rfl, b16⟩
  clear XNc0_34 XNc1_34 XNc2_34 XNc3_34 XNc4_34 XNc5_34
  clear Xc0_35 Xc1_35 Xc2_35 Xc3_35 Xc4_35 Xc5_35
  clear Yc0_36 Yc1_36 Yc2_36 Yc3_36 Yc4_36 Yc5_36
  replace X := X.later (b16.mono X.lt)
  replace D := D.later (b16.mono D.lt)
  replace Y := Y.later (b16.mono Y.lt)
  replace F := F.later (b16.mono F.lt)
  replace L := L.later (b16.mono L.lt)
  replace XN := XN.later (b16.mono XN.lt)
  replace BB := BB.trans (b16.mono BB.size)
  clear b16 
  have XNc0_37 := XN.c0
  have XNc1_37 := XN.c1
  have XNc2_37 := XN.c2
  have XNc3_37 := XN.c3
  have XNc4_37 := XN.c4
  have XNc5_37 := XN.c5
  have Xc0_38 := X.c0
  have Xc1_38 := X.c1
  have Xc2_38 := X.c2
  have Xc3_38 := X.c3
  have Xc4_38 := X.c4
  have Xc5_38 := X.c5
  have Yc0_39 := Y.c0
  have Yc1_39 := Y.c1
  have Yc2_39 := Y.c2
  have Yc3_39 := Y.c3
  have Yc4_39 := Y.c4
  have Yc5_39 := Y.c5
  go_wp2
  go_ret
  exact ⟨rfl, BB⟩

set_option maxRecDepth 100000 in
set_option maxHeartbeats 16000000 in
theorem torn_z10 (key : Nat) (ep ser siz tail num a b : Int) (_l1 : ser < 1099511627776) (l0 : ¬ 0 < ser) (C F1 Z : ByteArray) (zF : F1.size = 64) (_zC : C.size = 64) (zZ : Z.size = 64)
    (hPl : ∀ w, Calls Tryd.prog 10 #[.agg #[.int .u64 ((key : Nat) : Int), .int .i64 (ep), .int .i64 (ser), .int .i64 (siz), .int .i64 (tail), .int .i64 (num)]] w fun e w' => e = .returned (.agg #[.int .u64 ((key : Nat) : Int), .int .i64 (ep), .int .i64 (ser), .int .i64 (siz), .int .i64 (tail), .int .i64 (num)]) ∧ Below w.heap.size w w')
    (hRc : ∀ w, Calls Tryd.prog 9 #[.agg #[.int .u64 ((key : Nat) : Int), .int .i64 (ep), .int .i64 (ser), .int .i64 (siz), .int .i64 (tail), .int .i64 (num)]] w fun e w' => e = .returned (.int .i64 0) ∧ Below w.heap.size w w')
    (hN : ∀ w, Calls Tryd.prog 20 #[.agg #[.int .u64 ((key : Nat) : Int), .int .i64 (ep), .int .i64 (ser), .int .i64 (siz), .int .i64 (tail), .int .i64 (num)], .int .i64 a, .int .i64 b] w fun e w' => e = .returned (.tuple #[.agg #[.int .u64 ((key : Nat) : Int), .int .i64 (ep), .int .i64 (ser + 1), .int .i64 (siz), .int .i64 (a), .int .i64 (b)], .int .i64 0]) ∧ Below w.heap.size w w')
    (hE1 : ∀ w, Tab w → Calls Tryd.prog 11 #[.agg #[.int .u64 ((key : Nat) : Int), .int .i64 (ep), .int .i64 (ser), .int .i64 (siz), .int .i64 (tail), .int .i64 (num)]] w fun e w' => e = .returned (.tuple #[.string C, .int .i64 0]) ∧ Below w.heap.size w w')
    (hE2 : ∀ w, Tab w → Calls Tryd.prog 11 #[.agg #[.int .u64 ((key : Nat) : Int), .int .i64 (ep), .int .i64 (ser + 1), .int .i64 (siz), .int .i64 (a), .int .i64 (b)]] w fun e w' => e = .returned (.tuple #[.string F1, .int .i64 0]) ∧ Below w.heap.size w w')
    (hS1 : ∀ w, Calls Tryd.prog 15 #[.agg #[.int .u64 ((key : Nat) : Int), .int .i64 (ep), .int .i64 (ser), .int .i64 (siz), .int .i64 (tail), .int .i64 (num)]] w fun e w' => e = .returned (.int .i64 0) ∧ Below w.heap.size w w')
    (hS2 : ∀ w, Calls Tryd.prog 15 #[.agg #[.int .u64 ((key : Nat) : Int), .int .i64 (ep), .int .i64 (ser + 1), .int .i64 (siz), .int .i64 (a), .int .i64 (b)]] w fun e w' => e = .returned (.int .i64 1) ∧ Below w.heap.size w w')
    (hP : ∀ w, Tab w → Calls Tryd.prog 18 #[.string C, .string F1] w fun e w' => e = .returned (.tuple #[.agg #[.int .u64 ((key : Nat) : Int), .int .i64 (ep), .int .i64 (ser + 1), .int .i64 (siz), .int .i64 (a), .int .i64 (b)], .int .i64 (1), .int .i64 0]) ∧ Below w.heap.size w w')
    (hSx : ∀ w, Calls Tryd.prog 15 #[.agg #[.int .u64 ((key : Nat) : Int), .int .i64 (ep), .int .i64 (ser + 1), .int .i64 (siz), .int .i64 (a), .int .i64 (b)]] w fun e w' => e = .returned (.int .i64 (1)) ∧ Below w.heap.size w w')
    (hZ : Hid (str (List.replicate 64 0) = Z))
    (W : World) (T : Tab W) : Calls Tryd.prog 7 #[.agg #[.int .u64 ((key : Nat) : Int), .int .i64 (ep), .int .i64 (ser), .int .i64 (siz), .int .i64 (tail), .int .i64 (num)], .agg #[.int .i64 a, .int .i64 b], .int .i64 1] W fun e w' => e = .returned (.bool true) ∧ Below W.heap.size W w' := by
  have BB := Below.refl W.heap.size W
  have b1 := below_alloc W (.cells #[.int .u64 ((key : Nat) : Int), .int .i64 (ep), .int .i64 (ser), .int .i64 (siz), .int .i64 (tail), .int .i64 (num)] 24)
  have X : BoxC (W.alloc (.cells #[.int .u64 ((key : Nat) : Int), .int .i64 (ep), .int .i64 (ser), .int .i64 (siz), .int .i64 (tail), .int .i64 (num)] 24)) W.heap.size (key) (ep) (ser) (siz) (tail) (num) := boxC W (key) (ep) (ser) (siz) (tail) (num) 24
  replace BB := BB.trans (b1.mono BB.size)
  clear b1
  have Xc0_1 := X.c0
  have Xc1_1 := X.c1
  have Xc2_1 := X.c2
  have Xc3_1 := X.c3
  have Xc4_1 := X.c4
  have Xc5_1 := X.c5
  have b2 := below_alloc (W.alloc (.cells #[.int .u64 ((key : Nat) : Int), .int .i64 (ep), .int .i64 (ser), .int .i64 (siz), .int .i64 (tail), .int .i64 (num)] 24)) (.cells #[.int .i64 a, .int .i64 b] 49)
  have D : R2 ((W.alloc (.cells #[.int .u64 ((key : Nat) : Int), .int .i64 (ep), .int .i64 (ser), .int .i64 (siz), .int .i64 (tail), .int .i64 (num)] 24)).alloc (.cells #[.int .i64 a, .int .i64 b] 49)) (W.alloc (.cells #[.int .u64 ((key : Nat) : Int), .int .i64 (ep), .int .i64 (ser), .int .i64 (siz), .int .i64 (tail), .int .i64 (num)] 24)).heap.size (.int .i64 a) (.int .i64 b) := r2_new _ _ _ _
  simp only [World.size_alloc] at D
  replace X := X.later (b2.mono X.lt)
  replace BB := BB.trans (b2.mono BB.size)
  clear b2
  have Xc0_2 := X.c0
  have Xc1_2 := X.c1
  have Xc2_2 := X.c2
  have Xc3_2 := X.c3
  have Xc4_2 := X.c4
  have Xc5_2 := X.c5
  have Dc0_3 := D.c0
  have Dc1_3 := D.c1
  go_enter Tryd.func7, Tryd.ntmps7
  go_wp2_with fail
  refine (hPl _).mono ?_
  rintro e w3 ⟨rfl, b3⟩
  clear Xc0_2 Xc1_2 Xc2_2 Xc3_2 Xc4_2 Xc5_2
  clear Dc0_3 Dc1_3
  clear Xc0_1 Xc1_1 Xc2_1 Xc3_1 Xc4_1 Xc5_1
  replace X := X.later (b3.mono X.lt)
  replace D := D.later (b3.mono D.lt)
  replace BB := BB.trans (b3.mono BB.size)
  clear b3 
  have Xc0_4 := X.c0
  have Xc1_4 := X.c1
  have Xc2_4 := X.c2
  have Xc3_4 := X.c3
  have Xc4_4 := X.c4
  have Xc5_4 := X.c5
  have Dc0_5 := D.c0
  have Dc1_5 := D.c1
  go_wp2_with fail
  refine (hRc _).mono ?_
  rintro e w4 ⟨rfl, b4⟩
  clear Xc0_4 Xc1_4 Xc2_4 Xc3_4 Xc4_4 Xc5_4
  clear Dc0_5 Dc1_5
  replace X := X.later (b4.mono X.lt)
  replace D := D.later (b4.mono D.lt)
  replace BB := BB.trans (b4.mono BB.size)
  clear b4 
  have Xc0_6 := X.c0
  have Xc1_6 := X.c1
  have Xc2_6 := X.c2
  have Xc3_6 := X.c3
  have Xc4_6 := X.c4
  have Xc5_6 := X.c5
  have Dc0_7 := D.c0
  have Dc1_7 := D.c1
  go_wp2_with fail
  refine (hN _).mono ?_
  rintro e w5 ⟨rfl, b5⟩
  clear Xc0_6 Xc1_6 Xc2_6 Xc3_6 Xc4_6 Xc5_6
  clear Dc0_7 Dc1_7
  replace X := X.later (b5.mono X.lt)
  replace D := D.later (b5.mono D.lt)
  replace BB := BB.trans (b5.mono BB.size)
  clear b5 
  have Xc0_8 := X.c0
  have Xc1_8 := X.c1
  have Xc2_8 := X.c2
  have Xc3_8 := X.c3
  have Xc4_8 := X.c4
  have Xc5_8 := X.c5
  have Dc0_9 := D.c0
  have Dc1_9 := D.c1
  have b6 := below_alloc w5 (.cells #[.int .u64 ((key : Nat) : Int), .int .i64 (ep), .int .i64 (ser + 1), .int .i64 (siz), .int .i64 (a), .int .i64 (b)] 24)
  have Y : BoxC (w5.alloc (.cells #[.int .u64 ((key : Nat) : Int), .int .i64 (ep), .int .i64 (ser + 1), .int .i64 (siz), .int .i64 (a), .int .i64 (b)] 24)) w5.heap.size (key) (ep) (ser + 1) (siz) (a) (b) := boxC w5 (key) (ep) (ser + 1) (siz) (a) (b) 24
  replace X := X.later (b6.mono X.lt)
  replace D := D.later (b6.mono D.lt)
  replace BB := BB.trans (b6.mono BB.size)
  clear b6
  have Xc0_10 := X.c0
  have Xc1_10 := X.c1
  have Xc2_10 := X.c2
  have Xc3_10 := X.c3
  have Xc4_10 := X.c4
  have Xc5_10 := X.c5
  have Dc0_11 := D.c0
  have Dc1_11 := D.c1
  have Yc0_12 := Y.c0
  have Yc1_12 := Y.c1
  have Yc2_12 := Y.c2
  have Yc3_12 := Y.c3
  have Yc4_12 := Y.c4
  have Yc5_12 := Y.c5
  go_wp2_with fail
  refine (hE1 _ (T.later BB)).mono ?_
  rintro e w7 ⟨rfl, b7⟩
  clear Xc0_10 Xc1_10 Xc2_10 Xc3_10 Xc4_10 Xc5_10
  clear Dc0_11 Dc1_11
  clear Yc0_12 Yc1_12 Yc2_12 Yc3_12 Yc4_12 Yc5_12
  clear Xc0_8 Xc1_8 Xc2_8 Xc3_8 Xc4_8 Xc5_8 Dc0_9 Dc1_9
  replace X := X.later (b7.mono X.lt)
  replace D := D.later (b7.mono D.lt)
  replace Y := Y.later (b7.mono Y.lt)
  replace BB := BB.trans (b7.mono BB.size)
  clear b7 
  have Xc0_13 := X.c0
  have Xc1_13 := X.c1
  have Xc2_13 := X.c2
  have Xc3_13 := X.c3
  have Xc4_13 := X.c4
  have Xc5_13 := X.c5
  have Dc0_14 := D.c0
  have Dc1_14 := D.c1
  have Yc0_15 := Y.c0
  have Yc1_15 := Y.c1
  have Yc2_15 := Y.c2
  have Yc3_15 := Y.c3
  have Yc4_15 := Y.c4
  have Yc5_15 := Y.c5
  go_wp2_with fail
  refine (hE2 _ (T.later BB)).mono ?_
  rintro e w8 ⟨rfl, b8⟩
  clear Xc0_13 Xc1_13 Xc2_13 Xc3_13 Xc4_13 Xc5_13
  clear Dc0_14 Dc1_14
  clear Yc0_15 Yc1_15 Yc2_15 Yc3_15 Yc4_15 Yc5_15
  replace X := X.later (b8.mono X.lt)
  replace D := D.later (b8.mono D.lt)
  replace Y := Y.later (b8.mono Y.lt)
  replace BB := BB.trans (b8.mono BB.size)
  clear b8 
  have Xc0_16 := X.c0
  have Xc1_16 := X.c1
  have Xc2_16 := X.c2
  have Xc3_16 := X.c3
  have Xc4_16 := X.c4
  have Xc5_16 := X.c5
  have Dc0_17 := D.c0
  have Dc1_17 := D.c1
  have Yc0_18 := Y.c0
  have Yc1_18 := Y.c1
  have Yc2_18 := Y.c2
  have Yc3_18 := Y.c3
  have Yc4_18 := Y.c4
  have Yc5_18 := Y.c5
  clear Xc0_16 Xc1_16 Xc2_16 Xc3_16 Xc4_16 Xc5_16
  clear Dc0_17 Dc1_17
  clear Yc0_18 Yc1_18 Yc2_18 Yc3_18 Yc4_18 Yc5_18
  have hne9 := later_ne w8
  have qX0 : ∀ p : Later w8, p.val.cell? ⟨W.heap.size, 0, none⟩ = some (.int .u64 ((key : Nat) : Int)) := fun p => (X.later (p.below.mono X.lt)).c0
  have qX1 : ∀ p : Later w8, p.val.cell? ⟨W.heap.size, 1, none⟩ = some (.int .i64 (ep)) := fun p => (X.later (p.below.mono X.lt)).c1
  have qX2 : ∀ p : Later w8, p.val.cell? ⟨W.heap.size, 2, none⟩ = some (.int .i64 (ser)) := fun p => (X.later (p.below.mono X.lt)).c2
  have qX3 : ∀ p : Later w8, p.val.cell? ⟨W.heap.size, 3, none⟩ = some (.int .i64 (siz)) := fun p => (X.later (p.below.mono X.lt)).c3
  have qX4 : ∀ p : Later w8, p.val.cell? ⟨W.heap.size, 4, none⟩ = some (.int .i64 (tail)) := fun p => (X.later (p.below.mono X.lt)).c4
  have qX5 : ∀ p : Later w8, p.val.cell? ⟨W.heap.size, 5, none⟩ = some (.int .i64 (num)) := fun p => (X.later (p.below.mono X.lt)).c5
  have qY0 : ∀ p : Later w8, p.val.cell? ⟨w5.heap.size, 0, none⟩ = some (.int .u64 ((key : Nat) : Int)) := fun p => (Y.later (p.below.mono Y.lt)).c0
  have qY1 : ∀ p : Later w8, p.val.cell? ⟨w5.heap.size, 1, none⟩ = some (.int .i64 (ep)) := fun p => (Y.later (p.below.mono Y.lt)).c1
  have qY2 : ∀ p : Later w8, p.val.cell? ⟨w5.heap.size, 2, none⟩ = some (.int .i64 (ser + 1)) := fun p => (Y.later (p.below.mono Y.lt)).c2
  have qY3 : ∀ p : Later w8, p.val.cell? ⟨w5.heap.size, 3, none⟩ = some (.int .i64 (siz)) := fun p => (Y.later (p.below.mono Y.lt)).c3
  have qY4 : ∀ p : Later w8, p.val.cell? ⟨w5.heap.size, 4, none⟩ = some (.int .i64 (a)) := fun p => (Y.later (p.below.mono Y.lt)).c4
  have qY5 : ∀ p : Later w8, p.val.cell? ⟨w5.heap.size, 5, none⟩ = some (.int .i64 (b)) := fun p => (Y.later (p.below.mono Y.lt)).c5
  go_wp2
  refine wp_region_later (by kernel_rfl) (by kernel_rfl) ?_
  (repeat (first | go_big_quiet_skip | (go_big_quiet_want; go_big_quiet_op; go_big_quiet_on)))
  (go_big_quiet_want; go_big_quiet_op; apply Exists.intro; refine ⟨fun p => ?_, ?_⟩; (· exact later_of (hS1 _)); go_big_quiet_on)
  (repeat (first | go_big_quiet_skip | (go_big_quiet_want; go_big_quiet_op; go_big_quiet_on)))
  (go_big_quiet_want; go_big_quiet_op; apply Exists.intro; refine ⟨fun p => ?_, ?_⟩; (· exact later_of (hS2 _)); go_big_quiet_on)
  (repeat (first | go_big_quiet_skip | (go_big_quiet_want; go_big_quiet_op; go_big_quiet_on)))
  refine wpQuiet_nil ?_
  rintro _ ⟨p9, rfl⟩
  replace X := X.later (p9.below.mono X.lt)
  replace D := D.later (p9.below.mono D.lt)
  replace Y := Y.later (p9.below.mono Y.lt)
  replace BB := BB.trans (p9.below.mono BB.size)
  clear hne9 qX0 qX1 qX2 qX3 qX4 qX5 qY0 qY1 qY2 qY3 qY4 qY5
  have hmk : (Instr.makeSlice 47 (.int .i64 64) (.int .i64 64)).run Tryd.prog p9.val = .ok (.slice (some ⟨p9.val.heap.size, 0, none⟩) 64 64) (p9.val.alloc (.cells (zs 64) 5)) := make_bytes (N := 64) (by omega) _
  have hcv : (convert 47 9 (.slice (some ⟨p9.val.heap.size, 0, none⟩) 64 64)).run Tryd.prog (p9.val.alloc (.cells (zs 64) 5)) = .ok (.string Z) (p9.val.alloc (.cells (zs 64) 5)) := by rw [← hZ.out]; exact conv_rep (fun i hi => by simp [zs_get hi])
  generalize hzz : zs 64 = ZZ at *
  have b10 := below_alloc p9.val (.cells ZZ 5)
  replace X := X.later (b10.mono X.lt)
  replace D := D.later (b10.mono D.lt)
  replace Y := Y.later (b10.mono Y.lt)
  replace BB := BB.trans (b10.mono BB.size)
  clear b10
  have Xc0_19 := X.c0
  have Xc1_19 := X.c1
  have Xc2_19 := X.c2
  have Xc3_19 := X.c3
  have Xc4_19 := X.c4
  have Xc5_19 := X.c5
  have b11 := below_alloc (p9.val.alloc (.cells ZZ 5)) (.cells #[.string F1, .string C] 9)
  have L : R2 ((p9.val.alloc (.cells ZZ 5)).alloc (.cells #[.string F1, .string C] 9)) (p9.val.alloc (.cells ZZ 5)).heap.size (.string F1) (.string C) := r2_new _ _ _ _
  simp only [World.size_alloc] at L
  replace X := X.later (b11.mono X.lt)
  replace D := D.later (b11.mono D.lt)
  replace Y := Y.later (b11.mono Y.lt)
  replace BB := BB.trans (b11.mono BB.size)
  clear b11
  have Xc0_20 := X.c0
  have Xc1_20 := X.c1
  have Xc2_20 := X.c2
  have Xc3_20 := X.c3
  have Xc4_20 := X.c4
  have Xc5_20 := X.c5
  have Lc0_21 := L.c0
  have Lc1_21 := L.c1
  have Xc0_22 := X.c0
  have Xc1_22 := X.c1
  have Xc2_22 := X.c2
  have Xc3_22 := X.c3
  have Xc4_22 := X.c4
  have Xc5_22 := X.c5
  go_wp2_with fail
  refine (hS1 _).mono ?_
  rintro e w12 ⟨rfl, b12⟩
  clear Xc0_22 Xc1_22 Xc2_22 Xc3_22 Xc4_22 Xc5_22
  clear Lc0_21 Lc1_21
  clear Xc0_19 Xc1_19 Xc2_19 Xc3_19 Xc4_19 Xc5_19 Xc0_20 Xc1_20 Xc2_20 Xc3_20 Xc4_20 Xc5_20
  replace X := X.later (b12.mono X.lt)
  replace D := D.later (b12.mono D.lt)
  replace Y := Y.later (b12.mono Y.lt)
  replace L := L.later (b12.mono L.lt)
  replace BB := BB.trans (b12.mono BB.size)
  clear b12 hmk hcv
  have Xc0_23 := X.c0
  have Xc1_23 := X.c1
  have Xc2_23 := X.c2
  have Xc3_23 := X.c3
  have Xc4_23 := X.c4
  have Xc5_23 := X.c5
  have Lc0_24 := L.c0
  have Lc1_24 := L.c1
  have b13 := below_alloc w12 (.cells #[.string C, .string F1] 9)
  have M : R2 (w12.alloc (.cells #[.string C, .string F1] 9)) w12.heap.size (.string C) (.string F1) := r2_new _ _ _ _
  replace X := X.later (b13.mono X.lt)
  replace D := D.later (b13.mono D.lt)
  replace Y := Y.later (b13.mono Y.lt)
  replace L := L.later (b13.mono L.lt)
  replace BB := BB.trans (b13.mono BB.size)
  clear b13
  have Xc0_25 := X.c0
  have Xc1_25 := X.c1
  have Xc2_25 := X.c2
  have Xc3_25 := X.c3
  have Xc4_25 := X.c4
  have Xc5_25 := X.c5
  have Lc0_26 := L.c0
  have Lc1_26 := L.c1
  have Mc0_27 := M.c0
  have Mc1_27 := M.c1
  clear Xc0_25 Xc1_25 Xc2_25 Xc3_25 Xc4_25 Xc5_25
  clear Lc0_26 Lc1_26
  clear Mc0_27 Mc1_27
  clear Xc0_23 Xc1_23 Xc2_23 Xc3_23 Xc4_23 Xc5_23 Lc0_24 Lc1_24
  go_wp2
  generalize hwb : (w12.alloc (.cells #[.string C, .string F1] 9)) = wb0 at *
  have TQ := T.later BB
  refine wp_region_specs_mid (n := 12) [.val (.slice (some ⟨w12.heap.size, 0, none⟩) 2 2), .val (.pointer (some ⟨w12.heap.size, 0, none⟩)), .val (.string C), .val (.slice (some ⟨w12.heap.size, 0, none⟩) 2 2), .val (.pointer (some ⟨w12.heap.size, 1, none⟩)), .val (.string F1), .val (.tuple #[.agg #[.int .u64 ((key : Nat) : Int), .int .i64 (ep), .int .i64 (ser + 1), .int .i64 (siz), .int .i64 (a), .int .i64 (b)], .int .i64 (1), .int .i64 0]), .val (.tuple #[.agg #[.int .u64 ((key : Nat) : Int), .int .i64 (ep), .int .i64 (ser + 1), .int .i64 (siz), .int .i64 (a), .int .i64 (b)], .int .i64 (1), .int .i64 0]), .val (.agg #[.int .u64 ((key : Nat) : Int), .int .i64 (ep), .int .i64 (ser + 1), .int .i64 (siz), .int .i64 (a), .int .i64 (b)]), .val (.int .i64 (1)), .val (.int .i64 0), .nbox wb0.heap.size, .val (undef), .val (.int .i64 (1)), .val (.int .i64 0)] [.val (.slice (some ⟨w12.heap.size, 0, none⟩) 2 2), .val (.pointer (some ⟨w12.heap.size, 0, none⟩)), .val (.string C), .val (.slice (some ⟨w12.heap.size, 0, none⟩) 2 2), .val (.pointer (some ⟨w12.heap.size, 1, none⟩)), .val (.string F1), .val (.tuple #[.agg #[.int .u64 ((key : Nat) : Int), .int .i64 (ep), .int .i64 (ser + 1), .int .i64 (siz), .int .i64 (a), .int .i64 (b)], .int .i64 (1), .int .i64 0]), .val (.tuple #[.agg #[.int .u64 ((key : Nat) : Int), .int .i64 (ep), .int .i64 (ser + 1), .int .i64 (siz), .int .i64 (a), .int .i64 (b)], .int .i64 (1), .int .i64 0]), .val (.agg #[.int .u64 ((key : Nat) : Int), .int .i64 (ep), .int .i64 (ser + 1), .int .i64 (siz), .int .i64 (a), .int .i64 (b)]), .val (.int .i64 (1)), .val (.int .i64 0), .sbox wb0.heap.size (key) (ep) (ser + 1) (siz) (a) (b), .val (undef), .val (.int .i64 (1)), .val (.int .i64 0)] (by kernel_rfl) (by kernel_rfl) rfl rfl rfl ?_ ?_ ?_ ?_
  · refine ⟨?_, ?_⟩
    · intro hp A w1 hb ho hd
      clear hp
      have e17 : A.tmps[17]?.getD undef = .slice (some ⟨w12.heap.size, 0, none⟩) 2 2 := olds_get ho 17 (by kernel_rfl)
      refine ⟨rfl, goes_value (v := .slice (some ⟨w12.heap.size, 0, none⟩) 2 2) ?_ rfl⟩
      simp [go_sem, e17]
    refine ⟨?_, ?_⟩
    · intro hp A w1 hb ho hd
      clear hp
      have e107 : A.tmps[107]?.getD undef = .slice (some ⟨w12.heap.size, 0, none⟩) 2 2 := getq (hd _ (Array.mem_of_getElem? (i := 0) rfl) rfl _ _ rfl rfl)
      refine ⟨rfl, goes_value (v := .pointer (some ⟨w12.heap.size, 0, none⟩)) ?_ rfl⟩
      simp [go_sem, e107]
    refine ⟨?_, ?_⟩
    · intro hp A w1 hb ho hd
      clear hp
      have e108 : A.tmps[108]?.getD undef = .pointer (some ⟨w12.heap.size, 0, none⟩) := getq (hd _ (Array.mem_of_getElem? (i := 0) rfl) rfl _ _ rfl rfl)
      have cz := (M.later (hb.mono M.lt)).c0
      refine ⟨rfl, goes_value (v := .string C) ?_ rfl⟩
      simp [go_sem, e108, cz]
    refine ⟨?_, ?_⟩
    · intro hp A w1 hb ho hd
      clear hp
      have e17 : A.tmps[17]?.getD undef = .slice (some ⟨w12.heap.size, 0, none⟩) 2 2 := olds_get ho 17 (by kernel_rfl)
      refine ⟨rfl, goes_value (v := .slice (some ⟨w12.heap.size, 0, none⟩) 2 2) ?_ rfl⟩
      simp [go_sem, e17]
    refine ⟨?_, ?_⟩
    · intro hp A w1 hb ho hd
      clear hp
      have e110 : A.tmps[110]?.getD undef = .slice (some ⟨w12.heap.size, 0, none⟩) 2 2 := getq (hd _ (Array.mem_of_getElem? (i := 0) rfl) rfl _ _ rfl rfl)
      refine ⟨rfl, goes_value (v := .pointer (some ⟨w12.heap.size, 1, none⟩)) ?_ rfl⟩
      simp [go_sem, e110]
    refine ⟨?_, ?_⟩
    · intro hp A w1 hb ho hd
      clear hp
      have e111 : A.tmps[111]?.getD undef = .pointer (some ⟨w12.heap.size, 1, none⟩) := getq (hd _ (Array.mem_of_getElem? (i := 0) rfl) rfl _ _ rfl rfl)
      have cz := (M.later (hb.mono M.lt)).c1
      refine ⟨rfl, goes_value (v := .string F1) ?_ rfl⟩
      simp [go_sem, e111, cz]
    refine ⟨?_, ?_⟩
    · intro hp A w1 hb ho hd
      clear hp
      have e109 : A.tmps[109]?.getD undef = .string C := getq (hd _ (Array.mem_of_getElem? (i := 0) rfl) rfl _ _ rfl rfl)
      have e112 : A.tmps[112]?.getD undef = .string F1 := getq (hd _ (Array.mem_of_getElem? (i := 1) rfl) rfl _ _ rfl rfl)
      refine ⟨rfl, goes_call (f := 18) (args := #[.string C, .string F1]) ?_ (hP w1 (TQ.later hb))⟩
      simp [go_sem, e109, e112]
    refine ⟨?_, ?_⟩
    · intro hp A w1 hb ho hd
      clear hp
      have e113 : A.tmps[113]?.getD undef = .tuple #[.agg #[.int .u64 ((key : Nat) : Int), .int .i64 (ep), .int .i64 (ser + 1), .int .i64 (siz), .int .i64 (a), .int .i64 (b)], .int .i64 (1), .int .i64 0] := getq (hd _ (Array.mem_of_getElem? (i := 0) rfl) rfl _ _ rfl rfl)
      refine ⟨rfl, goes_value (v := .tuple #[.agg #[.int .u64 ((key : Nat) : Int), .int .i64 (ep), .int .i64 (ser + 1), .int .i64 (siz), .int .i64 (a), .int .i64 (b)], .int .i64 (1), .int .i64 0]) ?_ rfl⟩
      simp [go_sem, e113]
    refine ⟨?_, ?_⟩
    · intro hp A w1 hb ho hd
      clear hp
      have e106 : A.tmps[106]?.getD undef = .tuple #[.agg #[.int .u64 ((key : Nat) : Int), .int .i64 (ep), .int .i64 (ser + 1), .int .i64 (siz), .int .i64 (a), .int .i64 (b)], .int .i64 (1), .int .i64 0] := getq (hd _ (Array.mem_of_getElem? (i := 0) rfl) rfl _ _ rfl rfl)
      refine ⟨rfl, goes_value (v := .agg #[.int .u64 ((key : Nat) : Int), .int .i64 (ep), .int .i64 (ser + 1), .int .i64 (siz), .int .i64 (a), .int .i64 (b)]) ?_ rfl⟩
      simp [go_sem, e106]
    refine ⟨?_, ?_⟩
    · intro hp A w1 hb ho hd
      clear hp
      have e106 : A.tmps[106]?.getD undef = .tuple #[.agg #[.int .u64 ((key : Nat) : Int), .int .i64 (ep), .int .i64 (ser + 1), .int .i64 (siz), .int .i64 (a), .int .i64 (b)], .int .i64 (1), .int .i64 0] := getq (hd _ (Array.mem_of_getElem? (i := 0) rfl) rfl _ _ rfl rfl)
      refine ⟨rfl, goes_value (v := .int .i64 (1)) ?_ rfl⟩
      simp [go_sem, e106]
    refine ⟨?_, ?_⟩
    · intro hp A w1 hb ho hd
      clear hp
      have e106 : A.tmps[106]?.getD undef = .tuple #[.agg #[.int .u64 ((key : Nat) : Int), .int .i64 (ep), .int .i64 (ser + 1), .int .i64 (siz), .int .i64 (a), .int .i64 (b)], .int .i64 (1), .int .i64 0] := getq (hd _ (Array.mem_of_getElem? (i := 0) rfl) rfl _ _ rfl rfl)
      refine ⟨rfl, goes_value (v := .int .i64 0) ?_ rfl⟩
      simp [go_sem, e106]
    refine ⟨?_, ?_⟩
    · intro hp A w1 hb ho hd
      clear hp
      refine ⟨rfl, goes_alloc (v := .pointer (some ⟨w1.heap.size, 0, none⟩)) (o := .cells #[.int .u64 ((0 : Nat) : Int), .int .i64 0, .int .i64 0, .int .i64 0, .int .i64 0, .int .i64 0] 24) ?_ ⟨_, rfl, hb.size, boxC _ 0 0 0 0 0 0 24⟩⟩
      simp [go_sem]
    refine ⟨?_, ?_⟩
    · exact fun hp => absurd hp (by decide)
    refine ⟨?_, ?_⟩
    · intro hp A w1 hb ho hd
      clear hp
      have e115 : A.tmps[115]?.getD undef = .int .i64 (1) := getq (hd _ (Array.mem_of_getElem? (i := 0) rfl) rfl _ _ rfl rfl)
      refine ⟨rfl, goes_value (v := .int .i64 (1)) ?_ rfl⟩
      simp [go_sem, e115]
    refine ⟨?_, ?_⟩
    · intro hp A w1 hb ho hd
      clear hp
      have e116 : A.tmps[116]?.getD undef = .int .i64 0 := getq (hd _ (Array.mem_of_getElem? (i := 0) rfl) rfl _ _ rfl rfl)
      refine ⟨rfl, goes_value (v := .int .i64 0) ?_ rfl⟩
      simp [go_sem, e116]
    trivial
  · refine ⟨?_, ?_⟩
    · exact not_needed (by kernel_rfl)
    refine ⟨?_, ?_⟩
    · exact not_needed (by kernel_rfl)
    refine ⟨?_, ?_⟩
    · exact not_needed (by kernel_rfl)
    refine ⟨?_, ?_⟩
    · exact not_needed (by kernel_rfl)
    refine ⟨?_, ?_⟩
    · exact not_needed (by kernel_rfl)
    refine ⟨?_, ?_⟩
    · exact not_needed (by kernel_rfl)
    refine ⟨?_, ?_⟩
    · exact not_needed (by kernel_rfl)
    refine ⟨?_, ?_⟩
    · exact not_needed (by kernel_rfl)
    refine ⟨?_, ?_⟩
    · exact not_needed (by kernel_rfl)
    refine ⟨?_, ?_⟩
    · intro hp A w1 hb ho hd
      clear hp
      have e106 : A.tmps[106]?.getD undef = .tuple #[.agg #[.int .u64 ((key : Nat) : Int), .int .i64 (ep), .int .i64 (ser + 1), .int .i64 (siz), .int .i64 (a), .int .i64 (b)], .int .i64 (1), .int .i64 0] := getq (hd _ (Array.mem_of_getElem? (i := 0) rfl) rfl _ _ rfl rfl)
      refine ⟨rfl, goes_value (v := .int .i64 (1)) ?_ rfl⟩
      simp [go_sem, e106]
    refine ⟨?_, ?_⟩
    · intro hp A w1 hb ho hd
      clear hp
      have e106 : A.tmps[106]?.getD undef = .tuple #[.agg #[.int .u64 ((key : Nat) : Int), .int .i64 (ep), .int .i64 (ser + 1), .int .i64 (siz), .int .i64 (a), .int .i64 (b)], .int .i64 (1), .int .i64 0] := getq (hd _ (Array.mem_of_getElem? (i := 0) rfl) rfl _ _ rfl rfl)
      refine ⟨rfl, goes_value (v := .int .i64 0) ?_ rfl⟩
      simp [go_sem, e106]
    refine ⟨?_, ?_⟩
    · exact not_needed (by kernel_rfl)
    refine ⟨?_, ?_⟩
    · exact not_needed (by kernel_rfl)
    refine ⟨?_, ?_⟩
    · intro hp A w1 hb ho hd
      clear hp
      have e115 : A.tmps[115]?.getD undef = .int .i64 (1) := getq (hd _ (Array.mem_of_getElem? (i := 0) rfl) rfl _ _ rfl rfl)
      refine ⟨rfl, goes_value (v := .int .i64 (1)) ?_ rfl⟩
      simp [go_sem, e115]
    refine ⟨?_, ?_⟩
    · intro hp A w1 hb ho hd
      clear hp
      have e116 : A.tmps[116]?.getD undef = .int .i64 0 := getq (hd _ (Array.mem_of_getElem? (i := 0) rfl) rfl _ _ rfl rfl)
      refine ⟨rfl, goes_value (v := .int .i64 0) ?_ rfl⟩
      simp [go_sem, e116]
    trivial
  · intro A w2 hb ho hd
    obtain ⟨g, hg, hge, Zb⟩ := hd _ (Array.mem_of_getElem? (i := 0) rfl) rfl _ _ rfl rfl
    have e18 := getq hg
    have eV : A.tmps[114]?.getD undef = .agg #[.int .u64 ((key : Nat) : Int), .int .i64 (ep), .int .i64 (ser + 1), .int .i64 (siz), .int .i64 (a), .int .i64 (b)] := getq (hd _ (Array.mem_of_getElem? (i := 1) rfl) rfl _ _ rfl rfl)
    have zc0 := Zb.c0
    have zc1 := Zb.c1
    have zc2 := Zb.c2
    have zc3 := Zb.c3
    have zc4 := Zb.c4
    have zc5 := Zb.c5
    have zf0 := Zb.fr 0 (by omega)
    have zf1 := Zb.fr 1 (by omega)
    have zf2 := Zb.fr 2 (by omega)
    have zf3 := Zb.fr 3 (by omega)
    have zf4 := Zb.fr 4 (by omega)
    have zf5 := Zb.fr 5 (by omega)
    refine ⟨_, by simp [go_sem, e18, eV, zc0, zc1, zc2, zc3, zc4, zc5, zf0, zf1, zf2, zf3, zf4, zf5]; rfl, ?_, ?_⟩
    · exact BoxC.below Zb hb hge (key) (ep) (ser + 1) (siz) (a) (b)
    · intro j o d hj hdst h
      match j, hj, hdst, h with
      | 0, _, _, h => exact h
      | 1, _, _, h => exact h
      | 2, _, _, h => exact h
      | 3, _, _, h => exact h
      | 4, _, _, h => exact h
      | 5, _, _, h => exact h
      | 6, _, _, h => exact h
      | 7, _, _, h => exact h
      | 8, _, _, h => exact h
      | 9, _, _, h => exact h
      | 10, _, _, h => exact h
      | 11, hj, hdst, _ =>
        cases hj
        cases hdst
        exact ⟨g, hg, hge, Zb.put (key) (ep) (ser + 1) (siz) (a) (b)⟩
      | 12, _, _, h => exact h
      | 13, _, _, h => exact h
      | 14, _, _, h => exact h
      | j + 15, hj, _, _ => simp at hj
  intro A w9 hb9 hdf hsz hol hft
  obtain ⟨gx, hgx, hgxe, XN⟩ := hft 11 _ 18 rfl rfl
  have m107 : A.tmps.getD 107 undef = .slice (some ⟨w12.heap.size, 0, none⟩) 2 2 := hft 0 _ 107 rfl rfl
  have m108 : A.tmps.getD 108 undef = .pointer (some ⟨w12.heap.size, 0, none⟩) := hft 1 _ 108 rfl rfl
  have m109 : A.tmps.getD 109 undef = .string C := hft 2 _ 109 rfl rfl
  have m110 : A.tmps.getD 110 undef = .slice (some ⟨w12.heap.size, 0, none⟩) 2 2 := hft 3 _ 110 rfl rfl
  have m111 : A.tmps.getD 111 undef = .pointer (some ⟨w12.heap.size, 1, none⟩) := hft 4 _ 111 rfl rfl
  have m112 : A.tmps.getD 112 undef = .string F1 := hft 5 _ 112 rfl rfl
  have m113 : A.tmps.getD 113 undef = .tuple #[.agg #[.int .u64 ((key : Nat) : Int), .int .i64 (ep), .int .i64 (ser + 1), .int .i64 (siz), .int .i64 (a), .int .i64 (b)], .int .i64 (1), .int .i64 0] := hft 6 _ 113 rfl rfl
  have m106 : A.tmps.getD 106 undef = .tuple #[.agg #[.int .u64 ((key : Nat) : Int), .int .i64 (ep), .int .i64 (ser + 1), .int .i64 (siz), .int .i64 (a), .int .i64 (b)], .int .i64 (1), .int .i64 0] := hft 7 _ 106 rfl rfl
  have m114 : A.tmps.getD 114 undef = .agg #[.int .u64 ((key : Nat) : Int), .int .i64 (ep), .int .i64 (ser + 1), .int .i64 (siz), .int .i64 (a), .int .i64 (b)] := hft 8 _ 114 rfl rfl
  have m115 : A.tmps.getD 115 undef = .int .i64 (1) := hft 9 _ 115 rfl rfl
  have m116 : A.tmps.getD 116 undef = .int .i64 0 := hft 10 _ 116 rfl rfl
  have m19 : A.tmps.getD 19 undef = .int .i64 (1) := hft 13 _ 19 rfl rfl
  have m20 : A.tmps.getD 20 undef = .int .i64 0 := hft 14 _ 20 rfl rfl
  rename_i KK hKK
  refine hKK _ _ ?_
  show Code.wp _ _ _ A w9
  rw [frame_puts hdf hsz hol]
  simp only [List.foldl_cons, List.foldl_nil, Act.put, Option.getD_some, m107, m108, m109, m110, m111, m112, m113, m106, m114, m115, m116, m19, m20, hgx, List.setIfInBounds_toArray, List.set_cons_succ, List.set_cons_zero]
  clear m107 m108 m109 m110 m111 m112 m113 m106 m114 m115 m116 m19 m20 hft hol hsz hdf hKK hgx
  replace X := X.later (hb9.mono X.lt)
  replace D := D.later (hb9.mono D.lt)
  replace Y := Y.later (hb9.mono Y.lt)
  replace L := L.later (hb9.mono L.lt)
  replace M := M.later (hb9.mono M.lt)
  replace BB := BB.trans (hb9.mono BB.size)
  have XNc0_28 := XN.c0
  have XNc1_28 := XN.c1
  have XNc2_28 := XN.c2
  have XNc3_28 := XN.c3
  have XNc4_28 := XN.c4
  have XNc5_28 := XN.c5
  have Xc0_29 := X.c0
  have Xc1_29 := X.c1
  have Xc2_29 := X.c2
  have Xc3_29 := X.c3
  have Xc4_29 := X.c4
  have Xc5_29 := X.c5
  have Yc0_30 := Y.c0
  have Yc1_30 := Y.c1
  have Yc2_30 := Y.c2
  have Yc3_30 := Y.c3
  have Yc4_30 := Y.c4
  have Yc5_30 := Y.c5
  go_wp2_with fail
  refine (hSx _).mono ?_
  rintro e w14 ⟨rfl, b14⟩
  clear XNc0_28 XNc1_28 XNc2_28 XNc3_28 XNc4_28 XNc5_28
  clear Xc0_29 Xc1_29 Xc2_29 Xc3_29 Xc4_29 Xc5_29
  clear Yc0_30 Yc1_30 Yc2_30 Yc3_30 Yc4_30 Yc5_30
  replace X := X.later (b14.mono X.lt)
  replace D := D.later (b14.mono D.lt)
  replace Y := Y.later (b14.mono Y.lt)
  replace L := L.later (b14.mono L.lt)
  replace M := M.later (b14.mono M.lt)
  replace XN := XN.later (b14.mono XN.lt)
  replace BB := BB.trans (b14.mono BB.size)
  clear b14 
  have XNc0_31 := XN.c0
  have XNc1_31 := XN.c1
  have XNc2_31 := XN.c2
  have XNc3_31 := XN.c3
  have XNc4_31 := XN.c4
  have XNc5_31 := XN.c5
  have Xc0_32 := X.c0
  have Xc1_32 := X.c1
  have Xc2_32 := X.c2
  have Xc3_32 := X.c3
  have Xc4_32 := X.c4
  have Xc5_32 := X.c5
  have Yc0_33 := Y.c0
  have Yc1_33 := Y.c1
  have Yc2_33 := Y.c2
  have Yc3_33 := Y.c3
  have Yc4_33 := Y.c4
  have Yc5_33 := Y.c5
  go_wp2_with fail
  refine (awake_any _ (T.later BB)).mono ?_
  rintro e w15 ⟨rfl, b15⟩
  clear XNc0_31 XNc1_31 XNc2_31 XNc3_31 XNc4_31 XNc5_31
  clear Xc0_32 Xc1_32 Xc2_32 Xc3_32 Xc4_32 Xc5_32
  clear Yc0_33 Yc1_33 Yc2_33 Yc3_33 Yc4_33 Yc5_33
  replace X := X.later (b15.mono X.lt)
  replace D := D.later (b15.mono D.lt)
  replace Y := Y.later (b15.mono Y.lt)
  replace L := L.later (b15.mono L.lt)
  replace M := M.later (b15.mono M.lt)
  replace XN := XN.later (b15.mono XN.lt)
  replace BB := BB.trans (b15.mono BB.size)
  clear b15 
  have XNc0_34 := XN.c0
  have XNc1_34 := XN.c1
  have XNc2_34 := XN.c2
  have XNc3_34 := XN.c3
  have XNc4_34 := XN.c4
  have XNc5_34 := XN.c5
  have Xc0_35 := X.c0
  have Xc1_35 := X.c1
  have Xc2_35 := X.c2
  have Xc3_35 := X.c3
  have Xc4_35 := X.c4
  have Xc5_35 := X.c5
  have Yc0_36 := Y.c0
  have Yc1_36 := Y.c1
  have Yc2_36 := Y.c2
  have Yc3_36 := Y.c3
  have Yc4_36 := Y.c4
  have Yc5_36 := Y.c5
  go_wp2
  go_ret
  exact ⟨rfl, BB⟩

set_option maxRecDepth 100000 in
set_option maxHeartbeats 16000000 in
theorem torn_z20 (key : Nat) (ep ser siz tail num a b : Int) (_l1 : ser < 1099511627776) (l0 : ¬ 0 < ser) (C F1 Z : ByteArray) (zF : F1.size = 64) (_zC : C.size = 64) (zZ : Z.size = 64)
    (hPl : ∀ w, Calls Tryd.prog 10 #[.agg #[.int .u64 ((key : Nat) : Int), .int .i64 (ep), .int .i64 (ser), .int .i64 (siz), .int .i64 (tail), .int .i64 (num)]] w fun e w' => e = .returned (.agg #[.int .u64 ((key : Nat) : Int), .int .i64 (ep), .int .i64 (ser), .int .i64 (siz), .int .i64 (tail), .int .i64 (num)]) ∧ Below w.heap.size w w')
    (hRc : ∀ w, Calls Tryd.prog 9 #[.agg #[.int .u64 ((key : Nat) : Int), .int .i64 (ep), .int .i64 (ser), .int .i64 (siz), .int .i64 (tail), .int .i64 (num)]] w fun e w' => e = .returned (.int .i64 0) ∧ Below w.heap.size w w')
    (hN : ∀ w, Calls Tryd.prog 20 #[.agg #[.int .u64 ((key : Nat) : Int), .int .i64 (ep), .int .i64 (ser), .int .i64 (siz), .int .i64 (tail), .int .i64 (num)], .int .i64 a, .int .i64 b] w fun e w' => e = .returned (.tuple #[.agg #[.int .u64 ((key : Nat) : Int), .int .i64 (ep), .int .i64 (ser + 1), .int .i64 (siz), .int .i64 (a), .int .i64 (b)], .int .i64 0]) ∧ Below w.heap.size w w')
    (hE1 : ∀ w, Tab w → Calls Tryd.prog 11 #[.agg #[.int .u64 ((key : Nat) : Int), .int .i64 (ep), .int .i64 (ser), .int .i64 (siz), .int .i64 (tail), .int .i64 (num)]] w fun e w' => e = .returned (.tuple #[.string C, .int .i64 0]) ∧ Below w.heap.size w w')
    (hE2 : ∀ w, Tab w → Calls Tryd.prog 11 #[.agg #[.int .u64 ((key : Nat) : Int), .int .i64 (ep), .int .i64 (ser + 1), .int .i64 (siz), .int .i64 (a), .int .i64 (b)]] w fun e w' => e = .returned (.tuple #[.string F1, .int .i64 0]) ∧ Below w.heap.size w w')
    (hS1 : ∀ w, Calls Tryd.prog 15 #[.agg #[.int .u64 ((key : Nat) : Int), .int .i64 (ep), .int .i64 (ser), .int .i64 (siz), .int .i64 (tail), .int .i64 (num)]] w fun e w' => e = .returned (.int .i64 0) ∧ Below w.heap.size w w')
    (hS2 : ∀ w, Calls Tryd.prog 15 #[.agg #[.int .u64 ((key : Nat) : Int), .int .i64 (ep), .int .i64 (ser + 1), .int .i64 (siz), .int .i64 (a), .int .i64 (b)]] w fun e w' => e = .returned (.int .i64 1) ∧ Below w.heap.size w w')
    (hP : ∀ w, Tab w → Calls Tryd.prog 18 #[.string C, .string (F1.extract 0 32 ++ Z.extract 32 64)] w fun e w' => e = .returned (.tuple #[.agg #[.int .u64 ((key : Nat) : Int), .int .i64 (ep), .int .i64 (ser), .int .i64 (siz), .int .i64 (tail), .int .i64 (num)], .int .i64 (0), .int .i64 0]) ∧ Below w.heap.size w w')
    (hSx : ∀ w, Calls Tryd.prog 15 #[.agg #[.int .u64 ((key : Nat) : Int), .int .i64 (ep), .int .i64 (ser), .int .i64 (siz), .int .i64 (tail), .int .i64 (num)]] w fun e w' => e = .returned (.int .i64 (0)) ∧ Below w.heap.size w w')
    (hZ : Hid (str (List.replicate 64 0) = Z))
    (W : World) (T : Tab W) : Calls Tryd.prog 7 #[.agg #[.int .u64 ((key : Nat) : Int), .int .i64 (ep), .int .i64 (ser), .int .i64 (siz), .int .i64 (tail), .int .i64 (num)], .agg #[.int .i64 a, .int .i64 b], .int .i64 2] W fun e w' => e = .returned (.bool true) ∧ Below W.heap.size W w' := by
  have BB := Below.refl W.heap.size W
  have b1 := below_alloc W (.cells #[.int .u64 ((key : Nat) : Int), .int .i64 (ep), .int .i64 (ser), .int .i64 (siz), .int .i64 (tail), .int .i64 (num)] 24)
  have X : BoxC (W.alloc (.cells #[.int .u64 ((key : Nat) : Int), .int .i64 (ep), .int .i64 (ser), .int .i64 (siz), .int .i64 (tail), .int .i64 (num)] 24)) W.heap.size (key) (ep) (ser) (siz) (tail) (num) := boxC W (key) (ep) (ser) (siz) (tail) (num) 24
  replace BB := BB.trans (b1.mono BB.size)
  clear b1
  have Xc0_1 := X.c0
  have Xc1_1 := X.c1
  have Xc2_1 := X.c2
  have Xc3_1 := X.c3
  have Xc4_1 := X.c4
  have Xc5_1 := X.c5
  have b2 := below_alloc (W.alloc (.cells #[.int .u64 ((key : Nat) : Int), .int .i64 (ep), .int .i64 (ser), .int .i64 (siz), .int .i64 (tail), .int .i64 (num)] 24)) (.cells #[.int .i64 a, .int .i64 b] 49)
  have D : R2 ((W.alloc (.cells #[.int .u64 ((key : Nat) : Int), .int .i64 (ep), .int .i64 (ser), .int .i64 (siz), .int .i64 (tail), .int .i64 (num)] 24)).alloc (.cells #[.int .i64 a, .int .i64 b] 49)) (W.alloc (.cells #[.int .u64 ((key : Nat) : Int), .int .i64 (ep), .int .i64 (ser), .int .i64 (siz), .int .i64 (tail), .int .i64 (num)] 24)).heap.size (.int .i64 a) (.int .i64 b) := r2_new _ _ _ _
  simp only [World.size_alloc] at D
  replace X := X.later (b2.mono X.lt)
  replace BB := BB.trans (b2.mono BB.size)
  clear b2
  have Xc0_2 := X.c0
  have Xc1_2 := X.c1
  have Xc2_2 := X.c2
  have Xc3_2 := X.c3
  have Xc4_2 := X.c4
  have Xc5_2 := X.c5
  have Dc0_3 := D.c0
  have Dc1_3 := D.c1
  go_enter Tryd.func7, Tryd.ntmps7
  go_wp2_with fail
  refine (hPl _).mono ?_
  rintro e w3 ⟨rfl, b3⟩
  clear Xc0_2 Xc1_2 Xc2_2 Xc3_2 Xc4_2 Xc5_2
  clear Dc0_3 Dc1_3
  clear Xc0_1 Xc1_1 Xc2_1 Xc3_1 Xc4_1 Xc5_1
  replace X := X.later (b3.mono X.lt)
  replace D := D.later (b3.mono D.lt)
  replace BB := BB.trans (b3.mono BB.size)
  clear b3 
  have Xc0_4 := X.c0
  have Xc1_4 := X.c1
  have Xc2_4 := X.c2
  have Xc3_4 := X.c3
  have Xc4_4 := X.c4
  have Xc5_4 := X.c5
  have Dc0_5 := D.c0
  have Dc1_5 := D.c1
  go_wp2_with fail
  refine (hRc _).mono ?_
  rintro e w4 ⟨rfl, b4⟩
  clear Xc0_4 Xc1_4 Xc2_4 Xc3_4 Xc4_4 Xc5_4
  clear Dc0_5 Dc1_5
  replace X := X.later (b4.mono X.lt)
  replace D := D.later (b4.mono D.lt)
  replace BB := BB.trans (b4.mono BB.size)
  clear b4 
  have Xc0_6 := X.c0
  have Xc1_6 := X.c1
  have Xc2_6 := X.c2
  have Xc3_6 := X.c3
  have Xc4_6 := X.c4
  have Xc5_6 := X.c5
  have Dc0_7 := D.c0
  have Dc1_7 := D.c1
  go_wp2_with fail
  refine (hN _).mono ?_
  rintro e w5 ⟨rfl, b5⟩
  clear Xc0_6 Xc1_6 Xc2_6 Xc3_6 Xc4_6 Xc5_6
  clear Dc0_7 Dc1_7
  replace X := X.later (b5.mono X.lt)
  replace D := D.later (b5.mono D.lt)
  replace BB := BB.trans (b5.mono BB.size)
  clear b5 
  have Xc0_8 := X.c0
  have Xc1_8 := X.c1
  have Xc2_8 := X.c2
  have Xc3_8 := X.c3
  have Xc4_8 := X.c4
  have Xc5_8 := X.c5
  have Dc0_9 := D.c0
  have Dc1_9 := D.c1
  have b6 := below_alloc w5 (.cells #[.int .u64 ((key : Nat) : Int), .int .i64 (ep), .int .i64 (ser + 1), .int .i64 (siz), .int .i64 (a), .int .i64 (b)] 24)
  have Y : BoxC (w5.alloc (.cells #[.int .u64 ((key : Nat) : Int), .int .i64 (ep), .int .i64 (ser + 1), .int .i64 (siz), .int .i64 (a), .int .i64 (b)] 24)) w5.heap.size (key) (ep) (ser + 1) (siz) (a) (b) := boxC w5 (key) (ep) (ser + 1) (siz) (a) (b) 24
  replace X := X.later (b6.mono X.lt)
  replace D := D.later (b6.mono D.lt)
  replace BB := BB.trans (b6.mono BB.size)
  clear b6
  have Xc0_10 := X.c0
  have Xc1_10 := X.c1
  have Xc2_10 := X.c2
  have Xc3_10 := X.c3
  have Xc4_10 := X.c4
  have Xc5_10 := X.c5
  have Dc0_11 := D.c0
  have Dc1_11 := D.c1
  have Yc0_12 := Y.c0
  have Yc1_12 := Y.c1
  have Yc2_12 := Y.c2
  have Yc3_12 := Y.c3
  have Yc4_12 := Y.c4
  have Yc5_12 := Y.c5
  go_wp2_with fail
  refine (hE1 _ (T.later BB)).mono ?_
  rintro e w7 ⟨rfl, b7⟩
  clear Xc0_10 Xc1_10 Xc2_10 Xc3_10 Xc4_10 Xc5_10
  clear Dc0_11 Dc1_11
  clear Yc0_12 Yc1_12 Yc2_12 Yc3_12 Yc4_12 Yc5_12
  clear Xc0_8 Xc1_8 Xc2_8 Xc3_8 Xc4_8 Xc5_8 Dc0_9 Dc1_9
  replace X := X.later (b7.mono X.lt)
  replace D := D.later (b7.mono D.lt)
  replace Y := Y.later (b7.mono Y.lt)
  replace BB := BB.trans (b7.mono BB.size)
  clear b7 
  have Xc0_13 := X.c0
  have Xc1_13 := X.c1
  have Xc2_13 := X.c2
  have Xc3_13 := X.c3
  have Xc4_13 := X.c4
  have Xc5_13 := X.c5
  have Dc0_14 := D.c0
  have Dc1_14 := D.c1
  have Yc0_15 := Y.c0
  have Yc1_15 := Y.c1
  have Yc2_15 := Y.c2
  have Yc3_15 := Y.c3
  have Yc4_15 := Y.c4
  have Yc5_15 := Y.c5
  go_wp2_with fail
  refine (hE2 _ (T.later BB)).mono ?_
  rintro e w8 ⟨rfl, b8⟩
  clear Xc0_13 Xc1_13 Xc2_13 Xc3_13 Xc4_13 Xc5_13
  clear Dc0_14 Dc1_14
  clear Yc0_15 Yc1_15 Yc2_15 Yc3_15 Yc4_15 Yc5_15
  replace X := X.later (b8.mono X.lt)
  replace D := D.later (b8.mono D.lt)
  replace Y := Y.later (b8.mono Y.lt)
  replace BB := BB.trans (b8.mono BB.size)
  clear b8 
  have Xc0_16 := X.c0
  have Xc1_16 := X.c1
  have Xc2_16 := X.c2
  have Xc3_16 := X.c3
  have Xc4_16 := X.c4
  have Xc5_16 := X.c5
  have Dc0_17 := D.c0
  have Dc1_17 := D.c1
  have Yc0_18 := Y.c0
  have Yc1_18 := Y.c1
  have Yc2_18 := Y.c2
  have Yc3_18 := Y.c3
  have Yc4_18 := Y.c4
  have Yc5_18 := Y.c5
  clear Xc0_16 Xc1_16 Xc2_16 Xc3_16 Xc4_16 Xc5_16
  clear Dc0_17 Dc1_17
  clear Yc0_18 Yc1_18 Yc2_18 Yc3_18 Yc4_18 Yc5_18
  have hne9 := later_ne w8
  have qX0 : ∀ p : Later w8, p.val.cell? ⟨W.heap.size, 0, none⟩ = some (.int .u64 ((key : Nat) : Int)) := fun p => (X.later (p.below.mono X.lt)).c0
  have qX1 : ∀ p : Later w8, p.val.cell? ⟨W.heap.size, 1, none⟩ = some (.int .i64 (ep)) := fun p => (X.later (p.below.mono X.lt)).c1
  have qX2 : ∀ p : Later w8, p.val.cell? ⟨W.heap.size, 2, none⟩ = some (.int .i64 (ser)) := fun p => (X.later (p.below.mono X.lt)).c2
  have qX3 : ∀ p : Later w8, p.val.cell? ⟨W.heap.size, 3, none⟩ = some (.int .i64 (siz)) := fun p => (X.later (p.below.mono X.lt)).c3
  have qX4 : ∀ p : Later w8, p.val.cell? ⟨W.heap.size, 4, none⟩ = some (.int .i64 (tail)) := fun p => (X.later (p.below.mono X.lt)).c4
  have qX5 : ∀ p : Later w8, p.val.cell? ⟨W.heap.size, 5, none⟩ = some (.int .i64 (num)) := fun p => (X.later (p.below.mono X.lt)).c5
  have qY0 : ∀ p : Later w8, p.val.cell? ⟨w5.heap.size, 0, none⟩ = some (.int .u64 ((key : Nat) : Int)) := fun p => (Y.later (p.below.mono Y.lt)).c0
  have qY1 : ∀ p : Later w8, p.val.cell? ⟨w5.heap.size, 1, none⟩ = some (.int .i64 (ep)) := fun p => (Y.later (p.below.mono Y.lt)).c1
  have qY2 : ∀ p : Later w8, p.val.cell? ⟨w5.heap.size, 2, none⟩ = some (.int .i64 (ser + 1)) := fun p => (Y.later (p.below.mono Y.lt)).c2
  have qY3 : ∀ p : Later w8, p.val.cell? ⟨w5.heap.size, 3, none⟩ = some (.int .i64 (siz)) := fun p => (Y.later (p.below.mono Y.lt)).c3
  have qY4 : ∀ p : Later w8, p.val.cell? ⟨w5.heap.size, 4, none⟩ = some (.int .i64 (a)) := fun p => (Y.later (p.below.mono Y.lt)).c4
  have qY5 : ∀ p : Later w8, p.val.cell? ⟨w5.heap.size, 5, none⟩ = some (.int .i64 (b)) := fun p => (Y.later (p.below.mono Y.lt)).c5
  go_wp2
  refine wp_region_later (by kernel_rfl) (by kernel_rfl) ?_
  (repeat (first | go_big_quiet_skip | (go_big_quiet_want; go_big_quiet_op; go_big_quiet_on)))
  (go_big_quiet_want; go_big_quiet_op; apply Exists.intro; refine ⟨fun p => ?_, ?_⟩; (· exact later_of (hS1 _)); go_big_quiet_on)
  (repeat (first | go_big_quiet_skip | (go_big_quiet_want; go_big_quiet_op; go_big_quiet_on)))
  (go_big_quiet_want; go_big_quiet_op; apply Exists.intro; refine ⟨fun p => ?_, ?_⟩; (· exact later_of (hS2 _)); go_big_quiet_on)
  (repeat (first | go_big_quiet_skip | (go_big_quiet_want; go_big_quiet_op; go_big_quiet_on)))
  refine wpQuiet_nil ?_
  rintro _ ⟨p9, rfl⟩
  replace X := X.later (p9.below.mono X.lt)
  replace D := D.later (p9.below.mono D.lt)
  replace Y := Y.later (p9.below.mono Y.lt)
  replace BB := BB.trans (p9.below.mono BB.size)
  clear hne9 qX0 qX1 qX2 qX3 qX4 qX5 qY0 qY1 qY2 qY3 qY4 qY5
  have hmk : (Instr.makeSlice 47 (.int .i64 64) (.int .i64 64)).run Tryd.prog p9.val = .ok (.slice (some ⟨p9.val.heap.size, 0, none⟩) 64 64) (p9.val.alloc (.cells (zs 64) 5)) := make_bytes (N := 64) (by omega) _
  have hcv : (convert 47 9 (.slice (some ⟨p9.val.heap.size, 0, none⟩) 64 64)).run Tryd.prog (p9.val.alloc (.cells (zs 64) 5)) = .ok (.string Z) (p9.val.alloc (.cells (zs 64) 5)) := by rw [← hZ.out]; exact conv_rep (fun i hi => by simp [zs_get hi])
  generalize hzz : zs 64 = ZZ at *
  have b10 := below_alloc p9.val (.cells ZZ 5)
  replace X := X.later (b10.mono X.lt)
  replace D := D.later (b10.mono D.lt)
  replace Y := Y.later (b10.mono Y.lt)
  replace BB := BB.trans (b10.mono BB.size)
  clear b10
  have Xc0_19 := X.c0
  have Xc1_19 := X.c1
  have Xc2_19 := X.c2
  have Xc3_19 := X.c3
  have Xc4_19 := X.c4
  have Xc5_19 := X.c5
  have zx : (F1.extract 0 32).size = 32 := by simp; omega
  have zy : (Z.extract 32 64).size = 32 := by simp; omega
  clear Xc0_19 Xc1_19 Xc2_19 Xc3_19 Xc4_19 Xc5_19
  have hneq := later_ne (p9.val.alloc (.cells ZZ 5))
  have Xc0_20 := X.c0
  have Xc1_20 := X.c1
  have Xc2_20 := X.c2
  have Xc3_20 := X.c3
  have Xc4_20 := X.c4
  have Xc5_20 := X.c5
  go_wp2
  refine wp_region_later (by kernel_rfl) (by kernel_rfl) ?_
  (repeat (first | go_big_quiet_skip | (go_big_quiet_want; go_big_quiet_op; go_big_quiet_on)))
  refine wpQuiet_nil ?_
  rintro _ ⟨pz, rfl⟩
  clear Xc0_20 Xc1_20 Xc2_20 Xc3_20 Xc4_20 Xc5_20
  replace X := X.later (pz.below.mono X.lt)
  replace D := D.later (pz.below.mono D.lt)
  replace Y := Y.later (pz.below.mono Y.lt)
  replace BB := BB.trans (pz.below.mono BB.size)
  clear hneq hmk hcv
  have Xc0_21 := X.c0
  have Xc1_21 := X.c1
  have Xc2_21 := X.c2
  have Xc3_21 := X.c3
  have Xc4_21 := X.c4
  have Xc5_21 := X.c5
  have b11 := below_alloc pz.val (.cells #[.string (F1.extract 0 32 ++ Z.extract 32 64), .string C] 9)
  have L : R2 (pz.val.alloc (.cells #[.string (F1.extract 0 32 ++ Z.extract 32 64), .string C] 9)) pz.val.heap.size (.string (F1.extract 0 32 ++ Z.extract 32 64)) (.string C) := r2_new _ _ _ _
  replace X := X.later (b11.mono X.lt)
  replace D := D.later (b11.mono D.lt)
  replace Y := Y.later (b11.mono Y.lt)
  replace BB := BB.trans (b11.mono BB.size)
  clear b11
  have Xc0_22 := X.c0
  have Xc1_22 := X.c1
  have Xc2_22 := X.c2
  have Xc3_22 := X.c3
  have Xc4_22 := X.c4
  have Xc5_22 := X.c5
  have Lc0_23 := L.c0
  have Lc1_23 := L.c1
  have Xc0_24 := X.c0
  have Xc1_24 := X.c1
  have Xc2_24 := X.c2
  have Xc3_24 := X.c3
  have Xc4_24 := X.c4
  have Xc5_24 := X.c5
  go_wp2_with fail
  refine (hS1 _).mono ?_
  rintro e w12 ⟨rfl, b12⟩
  clear Xc0_24 Xc1_24 Xc2_24 Xc3_24 Xc4_24 Xc5_24
  clear Lc0_23 Lc1_23
  clear Xc0_21 Xc1_21 Xc2_21 Xc3_21 Xc4_21 Xc5_21 Xc0_22 Xc1_22 Xc2_22 Xc3_22 Xc4_22 Xc5_22
  replace X := X.later (b12.mono X.lt)
  replace D := D.later (b12.mono D.lt)
  replace Y := Y.later (b12.mono Y.lt)
  replace L := L.later (b12.mono L.lt)
  replace BB := BB.trans (b12.mono BB.size)
  clear b12 
  have Xc0_25 := X.c0
  have Xc1_25 := X.c1
  have Xc2_25 := X.c2
  have Xc3_25 := X.c3
  have Xc4_25 := X.c4
  have Xc5_25 := X.c5
  have Lc0_26 := L.c0
  have Lc1_26 := L.c1
  have b13 := below_alloc w12 (.cells #[.string C, .string (F1.extract 0 32 ++ Z.extract 32 64)] 9)
  have M : R2 (w12.alloc (.cells #[.string C, .string (F1.extract 0 32 ++ Z.extract 32 64)] 9)) w12.heap.size (.string C) (.string (F1.extract 0 32 ++ Z.extract 32 64)) := r2_new _ _ _ _
  replace X := X.later (b13.mono X.lt)
  replace D := D.later (b13.mono D.lt)
  replace Y := Y.later (b13.mono Y.lt)
  replace L := L.later (b13.mono L.lt)
  replace BB := BB.trans (b13.mono BB.size)
  clear b13
  have Xc0_27 := X.c0
  have Xc1_27 := X.c1
  have Xc2_27 := X.c2
  have Xc3_27 := X.c3
  have Xc4_27 := X.c4
  have Xc5_27 := X.c5
  have Lc0_28 := L.c0
  have Lc1_28 := L.c1
  have Mc0_29 := M.c0
  have Mc1_29 := M.c1
  clear Xc0_27 Xc1_27 Xc2_27 Xc3_27 Xc4_27 Xc5_27
  clear Lc0_28 Lc1_28
  clear Mc0_29 Mc1_29
  clear Xc0_25 Xc1_25 Xc2_25 Xc3_25 Xc4_25 Xc5_25 Lc0_26 Lc1_26
  go_wp2
  generalize hwb : (w12.alloc (.cells #[.string C, .string (F1.extract 0 32 ++ Z.extract 32 64)] 9)) = wb0 at *
  have TQ := T.later BB
  refine wp_region_specs_mid (n := 12) [.val (.slice (some ⟨w12.heap.size, 0, none⟩) 2 2), .val (.pointer (some ⟨w12.heap.size, 0, none⟩)), .val (.string C), .val (.slice (some ⟨w12.heap.size, 0, none⟩) 2 2), .val (.pointer (some ⟨w12.heap.size, 1, none⟩)), .val (.string (F1.extract 0 32 ++ Z.extract 32 64)), .val (.tuple #[.agg #[.int .u64 ((key : Nat) : Int), .int .i64 (ep), .int .i64 (ser), .int .i64 (siz), .int .i64 (tail), .int .i64 (num)], .int .i64 (0), .int .i64 0]), .val (.tuple #[.agg #[.int .u64 ((key : Nat) : Int), .int .i64 (ep), .int .i64 (ser), .int .i64 (siz), .int .i64 (tail), .int .i64 (num)], .int .i64 (0), .int .i64 0]), .val (.agg #[.int .u64 ((key : Nat) : Int), .int .i64 (ep), .int .i64 (ser), .int .i64 (siz), .int .i64 (tail), .int .i64 (num)]), .val (.int .i64 (0)), .val (.int .i64 0), .nbox wb0.heap.size, .val (undef), .val (.int .i64 (0)), .val (.int .i64 0)] [.val (.slice (some ⟨w12.heap.size, 0, none⟩) 2 2), .val (.pointer (some ⟨w12.heap.size, 0, none⟩)), .val (.string C), .val (.slice (some ⟨w12.heap.size, 0, none⟩) 2 2), .val (.pointer (some ⟨w12.heap.size, 1, none⟩)), .val (.string (F1.extract 0 32 ++ Z.extract 32 64)), .val (.tuple #[.agg #[.int .u64 ((key : Nat) : Int), .int .i64 (ep), .int .i64 (ser), .int .i64 (siz), .int .i64 (tail), .int .i64 (num)], .int .i64 (0), .int .i64 0]), .val (.tuple #[.agg #[.int .u64 ((key : Nat) : Int), .int .i64 (ep), .int .i64 (ser), .int .i64 (siz), .int .i64 (tail), .int .i64 (num)], .int .i64 (0), .int .i64 0]), .val (.agg #[.int .u64 ((key : Nat) : Int), .int .i64 (ep), .int .i64 (ser), .int .i64 (siz), .int .i64 (tail), .int .i64 (num)]), .val (.int .i64 (0)), .val (.int .i64 0), .sbox wb0.heap.size (key) (ep) (ser) (siz) (tail) (num), .val (undef), .val (.int .i64 (0)), .val (.int .i64 0)] (by kernel_rfl) (by kernel_rfl) rfl rfl rfl ?_ ?_ ?_ ?_
  · refine ⟨?_, ?_⟩
    · intro hp A w1 hb ho hd
      clear hp
      have e17 : A.tmps[17]?.getD undef = .slice (some ⟨w12.heap.size, 0, none⟩) 2 2 := olds_get ho 17 (by kernel_rfl)
      refine ⟨rfl, goes_value (v := .slice (some ⟨w12.heap.size, 0, none⟩) 2 2) ?_ rfl⟩
      simp [go_sem, e17]
    refine ⟨?_, ?_⟩
    · intro hp A w1 hb ho hd
      clear hp
      have e107 : A.tmps[107]?.getD undef = .slice (some ⟨w12.heap.size, 0, none⟩) 2 2 := getq (hd _ (Array.mem_of_getElem? (i := 0) rfl) rfl _ _ rfl rfl)
      refine ⟨rfl, goes_value (v := .pointer (some ⟨w12.heap.size, 0, none⟩)) ?_ rfl⟩
      simp [go_sem, e107]
    refine ⟨?_, ?_⟩
    · intro hp A w1 hb ho hd
      clear hp
      have e108 : A.tmps[108]?.getD undef = .pointer (some ⟨w12.heap.size, 0, none⟩) := getq (hd _ (Array.mem_of_getElem? (i := 0) rfl) rfl _ _ rfl rfl)
      have cz := (M.later (hb.mono M.lt)).c0
      refine ⟨rfl, goes_value (v := .string C) ?_ rfl⟩
      simp [go_sem, e108, cz]
    refine ⟨?_, ?_⟩
    · intro hp A w1 hb ho hd
      clear hp
      have e17 : A.tmps[17]?.getD undef = .slice (some ⟨w12.heap.size, 0, none⟩) 2 2 := olds_get ho 17 (by kernel_rfl)
      refine ⟨rfl, goes_value (v := .slice (some ⟨w12.heap.size, 0, none⟩) 2 2) ?_ rfl⟩
      simp [go_sem, e17]
    refine ⟨?_, ?_⟩
    · intro hp A w1 hb ho hd
      clear hp
      have e110 : A.tmps[110]?.getD undef = .slice (some ⟨w12.heap.size, 0, none⟩) 2 2 := getq (hd _ (Array.mem_of_getElem? (i := 0) rfl) rfl _ _ rfl rfl)
      refine ⟨rfl, goes_value (v := .pointer (some ⟨w12.heap.size, 1, none⟩)) ?_ rfl⟩
      simp [go_sem, e110]
    refine ⟨?_, ?_⟩
    · intro hp A w1 hb ho hd
      clear hp
      have e111 : A.tmps[111]?.getD undef = .pointer (some ⟨w12.heap.size, 1, none⟩) := getq (hd _ (Array.mem_of_getElem? (i := 0) rfl) rfl _ _ rfl rfl)
      have cz := (M.later (hb.mono M.lt)).c1
      refine ⟨rfl, goes_value (v := .string (F1.extract 0 32 ++ Z.extract 32 64)) ?_ rfl⟩
      simp [go_sem, e111, cz]
    refine ⟨?_, ?_⟩
    · intro hp A w1 hb ho hd
      clear hp
      have e109 : A.tmps[109]?.getD undef = .string C := getq (hd _ (Array.mem_of_getElem? (i := 0) rfl) rfl _ _ rfl rfl)
      have e112 : A.tmps[112]?.getD undef = .string (F1.extract 0 32 ++ Z.extract 32 64) := getq (hd _ (Array.mem_of_getElem? (i := 1) rfl) rfl _ _ rfl rfl)
      refine ⟨rfl, goes_call (f := 18) (args := #[.string C, .string (F1.extract 0 32 ++ Z.extract 32 64)]) ?_ (hP w1 (TQ.later hb))⟩
      simp [go_sem, e109, e112]
    refine ⟨?_, ?_⟩
    · intro hp A w1 hb ho hd
      clear hp
      have e113 : A.tmps[113]?.getD undef = .tuple #[.agg #[.int .u64 ((key : Nat) : Int), .int .i64 (ep), .int .i64 (ser), .int .i64 (siz), .int .i64 (tail), .int .i64 (num)], .int .i64 (0), .int .i64 0] := getq (hd _ (Array.mem_of_getElem? (i := 0) rfl) rfl _ _ rfl rfl)
      refine ⟨rfl, goes_value (v := .tuple #[.agg #[.int .u64 ((key : Nat) : Int), .int .i64 (ep), .int .i64 (ser), .int .i64 (siz), .int .i64 (tail), .int .i64 (num)], .int .i64 (0), .int .i64 0]) ?_ rfl⟩
      simp [go_sem, e113]
    refine ⟨?_, ?_⟩
    · intro hp A w1 hb ho hd
      clear hp
      have e106 : A.tmps[106]?.getD undef = .tuple #[.agg #[.int .u64 ((key : Nat) : Int), .int .i64 (ep), .int .i64 (ser), .int .i64 (siz), .int .i64 (tail), .int .i64 (num)], .int .i64 (0), .int .i64 0] := getq (hd _ (Array.mem_of_getElem? (i := 0) rfl) rfl _ _ rfl rfl)
      refine ⟨rfl, goes_value (v := .agg #[.int .u64 ((key : Nat) : Int), .int .i64 (ep), .int .i64 (ser), .int .i64 (siz), .int .i64 (tail), .int .i64 (num)]) ?_ rfl⟩
      simp [go_sem, e106]
    refine ⟨?_, ?_⟩
    · intro hp A w1 hb ho hd
      clear hp
      have e106 : A.tmps[106]?.getD undef = .tuple #[.agg #[.int .u64 ((key : Nat) : Int), .int .i64 (ep), .int .i64 (ser), .int .i64 (siz), .int .i64 (tail), .int .i64 (num)], .int .i64 (0), .int .i64 0] := getq (hd _ (Array.mem_of_getElem? (i := 0) rfl) rfl _ _ rfl rfl)
      refine ⟨rfl, goes_value (v := .int .i64 (0)) ?_ rfl⟩
      simp [go_sem, e106]
    refine ⟨?_, ?_⟩
    · intro hp A w1 hb ho hd
      clear hp
      have e106 : A.tmps[106]?.getD undef = .tuple #[.agg #[.int .u64 ((key : Nat) : Int), .int .i64 (ep), .int .i64 (ser), .int .i64 (siz), .int .i64 (tail), .int .i64 (num)], .int .i64 (0), .int .i64 0] := getq (hd _ (Array.mem_of_getElem? (i := 0) rfl) rfl _ _ rfl rfl)
      refine ⟨rfl, goes_value (v := .int .i64 0) ?_ rfl⟩
      simp [go_sem, e106]
    refine ⟨?_, ?_⟩
    · intro hp A w1 hb ho hd
      clear hp
      refine ⟨rfl, goes_alloc (v := .pointer (some ⟨w1.heap.size, 0, none⟩)) (o := .cells #[.int .u64 ((0 : Nat) : Int), .int .i64 0, .int .i64 0, .int .i64 0, .int .i64 0, .int .i64 0] 24) ?_ ⟨_, rfl, hb.size, boxC _ 0 0 0 0 0 0 24⟩⟩
      simp [go_sem]
    refine ⟨?_, ?_⟩
    · exact fun hp => absurd hp (by decide)
    refine ⟨?_, ?_⟩
    · intro hp A w1 hb ho hd
      clear hp
      have e115 : A.tmps[115]?.getD undef = .int .i64 (0) := getq (hd _ (Array.mem_of_getElem? (i := 0) rfl) rfl _ _ rfl rfl)
      refine ⟨rfl, goes_value (v := .int .i64 (0)) ?_ rfl⟩
      simp [go_sem, e115]
    refine ⟨?_, ?_⟩
    · intro hp A w1 hb ho hd
      clear hp
      have e116 : A.tmps[116]?.getD undef = .int .i64 0 := getq (hd _ (Array.mem_of_getElem? (i := 0) rfl) rfl _ _ rfl rfl)
      refine ⟨rfl, goes_value (v := .int .i64 0) ?_ rfl⟩
      simp [go_sem, e116]
    trivial
  · refine ⟨?_, ?_⟩
    · exact not_needed (by kernel_rfl)
    refine ⟨?_, ?_⟩
    · exact not_needed (by kernel_rfl)
    refine ⟨?_, ?_⟩
    · exact not_needed (by kernel_rfl)
    refine ⟨?_, ?_⟩
    · exact not_needed (by kernel_rfl)
    refine ⟨?_, ?_⟩
    · exact not_needed (by kernel_rfl)
    refine ⟨?_, ?_⟩
    · exact not_needed (by kernel_rfl)
    refine ⟨?_, ?_⟩
    · exact not_needed (by kernel_rfl)
    refine ⟨?_, ?_⟩
    · exact not_needed (by kernel_rfl)
    refine ⟨?_, ?_⟩
    · exact not_needed (by kernel_rfl)
    refine ⟨?_, ?_⟩
    · intro hp A w1 hb ho hd
      clear hp
      have e106 : A.tmps[106]?.getD undef = .tuple #[.agg #[.int .u64 ((key : Nat) : Int), .int .i64 (ep), .int .i64 (ser), .int .i64 (siz), .int .i64 (tail), .int .i64 (num)], .int .i64 (0), .int .i64 0] := getq (hd _ (Array.mem_of_getElem? (i := 0) rfl) rfl _ _ rfl rfl)
      refine ⟨rfl, goes_value (v := .int .i64 (0)) ?_ rfl⟩
      simp [go_sem, e106]
    refine ⟨?_, ?_⟩
    · intro hp A w1 hb ho hd
      clear hp
      have e106 : A.tmps[106]?.getD undef = .tuple #[.agg #[.int .u64 ((key : Nat) : Int), .int .i64 (ep), .int .i64 (ser), .int .i64 (siz), .int .i64 (tail), .int .i64 (num)], .int .i64 (0), .int .i64 0] := getq (hd _ (Array.mem_of_getElem? (i := 0) rfl) rfl _ _ rfl rfl)
      refine ⟨rfl, goes_value (v := .int .i64 0) ?_ rfl⟩
      simp [go_sem, e106]
    refine ⟨?_, ?_⟩
    · exact not_needed (by kernel_rfl)
    refine ⟨?_, ?_⟩
    · exact not_needed (by kernel_rfl)
    refine ⟨?_, ?_⟩
    · intro hp A w1 hb ho hd
      clear hp
      have e115 : A.tmps[115]?.getD undef = .int .i64 (0) := getq (hd _ (Array.mem_of_getElem? (i := 0) rfl) rfl _ _ rfl rfl)
      refine ⟨rfl, goes_value (v := .int .i64 (0)) ?_ rfl⟩
      simp [go_sem, e115]
    refine ⟨?_, ?_⟩
    · intro hp A w1 hb ho hd
      clear hp
      have e116 : A.tmps[116]?.getD undef = .int .i64 0 := getq (hd _ (Array.mem_of_getElem? (i := 0) rfl) rfl _ _ rfl rfl)
      refine ⟨rfl, goes_value (v := .int .i64 0) ?_ rfl⟩
      simp [go_sem, e116]
    trivial
  · intro A w2 hb ho hd
    obtain ⟨g, hg, hge, Zb⟩ := hd _ (Array.mem_of_getElem? (i := 0) rfl) rfl _ _ rfl rfl
    have e18 := getq hg
    have eV : A.tmps[114]?.getD undef = .agg #[.int .u64 ((key : Nat) : Int), .int .i64 (ep), .int .i64 (ser), .int .i64 (siz), .int .i64 (tail), .int .i64 (num)] := getq (hd _ (Array.mem_of_getElem? (i := 1) rfl) rfl _ _ rfl rfl)
    have zc0 := Zb.c0
    have zc1 := Zb.c1
    have zc2 := Zb.c2
    have zc3 := Zb.c3
    have zc4 := Zb.c4
    have zc5 := Zb.c5
    have zf0 := Zb.fr 0 (by omega)
    have zf1 := Zb.fr 1 (by omega)
    have zf2 := Zb.fr 2 (by omega)
    have zf3 := Zb.fr 3 (by omega)
    have zf4 := Zb.fr 4 (by omega)
    have zf5 := Zb.fr 5 (by omega)
    refine ⟨_, by simp [go_sem, e18, eV, zc0, zc1, zc2, zc3, zc4, zc5, zf0, zf1, zf2, zf3, zf4, zf5]; rfl, ?_, ?_⟩
    · exact BoxC.below Zb hb hge (key) (ep) (ser) (siz) (tail) (num)
    · intro j o d hj hdst h
      match j, hj, hdst, h with
      | 0, _, _, h => exact h
      | 1, _, _, h => exact h
      | 2, _, _, h => exact h
      | 3, _, _, h => exact h
      | 4, _, _, h => exact h
      | 5, _, _, h => exact h
      | 6, _, _, h => exact h
      | 7, _, _, h => exact h
      | 8, _, _, h => exact h
      | 9, _, _, h => exact h
      | 10, _, _, h => exact h
      | 11, hj, hdst, _ =>
        cases hj
        cases hdst
        exact ⟨g, hg, hge, Zb.put (key) (ep) (ser) (siz) (tail) (num)⟩
      | 12, _, _, h => exact h
      | 13, _, _, h => exact h
      | 14, _, _, h => exact h
      | j + 15, hj, _, _ => simp at hj
  intro A w9 hb9 hdf hsz hol hft
  obtain ⟨gx, hgx, hgxe, XN⟩ := hft 11 _ 18 rfl rfl
  have m107 : A.tmps.getD 107 undef = .slice (some ⟨w12.heap.size, 0, none⟩) 2 2 := hft 0 _ 107 rfl rfl
  have m108 : A.tmps.getD 108 undef = .pointer (some ⟨w12.heap.size, 0, none⟩) := hft 1 _ 108 rfl rfl
  have m109 : A.tmps.getD 109 undef = .string C := hft 2 _ 109 rfl rfl
  have m110 : A.tmps.getD 110 undef = .slice (some ⟨w12.heap.size, 0, none⟩) 2 2 := hft 3 _ 110 rfl rfl
  have m111 : A.tmps.getD 111 undef = .pointer (some ⟨w12.heap.size, 1, none⟩) := hft 4 _ 111 rfl rfl
  have m112 : A.tmps.getD 112 undef = .string (F1.extract 0 32 ++ Z.extract 32 64) := hft 5 _ 112 rfl rfl
  have m113 : A.tmps.getD 113 undef = .tuple #[.agg #[.int .u64 ((key : Nat) : Int), .int .i64 (ep), .int .i64 (ser), .int .i64 (siz), .int .i64 (tail), .int .i64 (num)], .int .i64 (0), .int .i64 0] := hft 6 _ 113 rfl rfl
  have m106 : A.tmps.getD 106 undef = .tuple #[.agg #[.int .u64 ((key : Nat) : Int), .int .i64 (ep), .int .i64 (ser), .int .i64 (siz), .int .i64 (tail), .int .i64 (num)], .int .i64 (0), .int .i64 0] := hft 7 _ 106 rfl rfl
  have m114 : A.tmps.getD 114 undef = .agg #[.int .u64 ((key : Nat) : Int), .int .i64 (ep), .int .i64 (ser), .int .i64 (siz), .int .i64 (tail), .int .i64 (num)] := hft 8 _ 114 rfl rfl
  have m115 : A.tmps.getD 115 undef = .int .i64 (0) := hft 9 _ 115 rfl rfl
  have m116 : A.tmps.getD 116 undef = .int .i64 0 := hft 10 _ 116 rfl rfl
  have m19 : A.tmps.getD 19 undef = .int .i64 (0) := hft 13 _ 19 rfl rfl
  have m20 : A.tmps.getD 20 undef = .int .i64 0 := hft 14 _ 20 rfl rfl
  rename_i KK hKK
  refine hKK _ _ ?_
  show Code.wp _ _ _ A w9
  rw [frame_puts hdf hsz hol]
  simp only [List.foldl_cons, List.foldl_nil, Act.put, Option.getD_some, m107, m108, m109, m110, m111, m112, m113, m106, m114, m115, m116, m19, m20, hgx, List.setIfInBounds_toArray, List.set_cons_succ, List.set_cons_zero]
  clear m107 m108 m109 m110 m111 m112 m113 m106 m114 m115 m116 m19 m20 hft hol hsz hdf hKK hgx
  replace X := X.later (hb9.mono X.lt)
  replace D := D.later (hb9.mono D.lt)
  replace Y := Y.later (hb9.mono Y.lt)
  replace L := L.later (hb9.mono L.lt)
  replace M := M.later (hb9.mono M.lt)
  replace BB := BB.trans (hb9.mono BB.size)
  have XNc0_30 := XN.c0
  have XNc1_30 := XN.c1
  have XNc2_30 := XN.c2
  have XNc3_30 := XN.c3
  have XNc4_30 := XN.c4
  have XNc5_30 := XN.c5
  have Xc0_31 := X.c0
  have Xc1_31 := X.c1
  have Xc2_31 := X.c2
  have Xc3_31 := X.c3
  have Xc4_31 := X.c4
  have Xc5_31 := X.c5
  have Yc0_32 := Y.c0
  have Yc1_32 := Y.c1
  have Yc2_32 := Y.c2
  have Yc3_32 := Y.c3
  have Yc4_32 := Y.c4
  have Yc5_32 := Y.c5
  go_wp2_with fail
  refine (hSx _).mono ?_
  rintro e w14 ⟨rfl, b14⟩
  clear XNc0_30 XNc1_30 XNc2_30 XNc3_30 XNc4_30 XNc5_30
  clear Xc0_31 Xc1_31 Xc2_31 Xc3_31 Xc4_31 Xc5_31
  clear Yc0_32 Yc1_32 Yc2_32 Yc3_32 Yc4_32 Yc5_32
  replace X := X.later (b14.mono X.lt)
  replace D := D.later (b14.mono D.lt)
  replace Y := Y.later (b14.mono Y.lt)
  replace L := L.later (b14.mono L.lt)
  replace M := M.later (b14.mono M.lt)
  replace XN := XN.later (b14.mono XN.lt)
  replace BB := BB.trans (b14.mono BB.size)
  clear b14 
  have XNc0_33 := XN.c0
  have XNc1_33 := XN.c1
  have XNc2_33 := XN.c2
  have XNc3_33 := XN.c3
  have XNc4_33 := XN.c4
  have XNc5_33 := XN.c5
  have Xc0_34 := X.c0
  have Xc1_34 := X.c1
  have Xc2_34 := X.c2
  have Xc3_34 := X.c3
  have Xc4_34 := X.c4
  have Xc5_34 := X.c5
  have Yc0_35 := Y.c0
  have Yc1_35 := Y.c1
  have Yc2_35 := Y.c2
  have Yc3_35 := Y.c3
  have Yc4_35 := Y.c4
  have Yc5_35 := Y.c5
  go_wp2_with fail
  refine (awake_any _ (T.later BB)).mono ?_
  rintro e w15 ⟨rfl, b15⟩
  clear XNc0_33 XNc1_33 XNc2_33 XNc3_33 XNc4_33 XNc5_33
  clear Xc0_34 Xc1_34 Xc2_34 Xc3_34 Xc4_34 Xc5_34
  clear Yc0_35 Yc1_35 Yc2_35 Yc3_35 Yc4_35 Yc5_35
  replace X := X.later (b15.mono X.lt)
  replace D := D.later (b15.mono D.lt)
  replace Y := Y.later (b15.mono Y.lt)
  replace L := L.later (b15.mono L.lt)
  replace M := M.later (b15.mono M.lt)
  replace XN := XN.later (b15.mono XN.lt)
  replace BB := BB.trans (b15.mono BB.size)
  clear b15 
  have XNc0_36 := XN.c0
  have XNc1_36 := XN.c1
  have XNc2_36 := XN.c2
  have XNc3_36 := XN.c3
  have XNc4_36 := XN.c4
  have XNc5_36 := XN.c5
  have Xc0_37 := X.c0
  have Xc1_37 := X.c1
  have Xc2_37 := X.c2
  have Xc3_37 := X.c3
  have Xc4_37 := X.c4
  have Xc5_37 := X.c5
  have Yc0_38 := Y.c0
  have Yc1_38 := Y.c1
  have Yc2_38 := Y.c2
  have Yc3_38 := Y.c3
  have Yc4_38 := Y.c4
  have Yc5_38 := Y.c5
  go_wp2
  go_ret
  exact ⟨rfl, BB⟩

set_option maxRecDepth 100000 in
set_option maxHeartbeats 16000000 in
theorem torn_zo0 (key : Nat) (ep ser siz tail num a b : Int) (how : Int) (k1 : ¬ how = 1) (k2 : ¬ how = 2) (_l1 : ser < 1099511627776) (l0 : ¬ 0 < ser) (C F1 Z : ByteArray) (zF : F1.size = 64) (_zC : C.size = 64) (zZ : Z.size = 64)
    (hPl : ∀ w, Calls Tryd.prog 10 #[.agg #[.int .u64 ((key : Nat) : Int), .int .i64 (ep), .int .i64 (ser), .int .i64 (siz), .int .i64 (tail), .int .i64 (num)]] w fun e w' => e = .returned (.agg #[.int .u64 ((key : Nat) : Int), .int .i64 (ep), .int .i64 (ser), .int .i64 (siz), .int .i64 (tail), .int .i64 (num)]) ∧ Below w.heap.size w w')
    (hRc : ∀ w, Calls Tryd.prog 9 #[.agg #[.int .u64 ((key : Nat) : Int), .int .i64 (ep), .int .i64 (ser), .int .i64 (siz), .int .i64 (tail), .int .i64 (num)]] w fun e w' => e = .returned (.int .i64 0) ∧ Below w.heap.size w w')
    (hN : ∀ w, Calls Tryd.prog 20 #[.agg #[.int .u64 ((key : Nat) : Int), .int .i64 (ep), .int .i64 (ser), .int .i64 (siz), .int .i64 (tail), .int .i64 (num)], .int .i64 a, .int .i64 b] w fun e w' => e = .returned (.tuple #[.agg #[.int .u64 ((key : Nat) : Int), .int .i64 (ep), .int .i64 (ser + 1), .int .i64 (siz), .int .i64 (a), .int .i64 (b)], .int .i64 0]) ∧ Below w.heap.size w w')
    (hE1 : ∀ w, Tab w → Calls Tryd.prog 11 #[.agg #[.int .u64 ((key : Nat) : Int), .int .i64 (ep), .int .i64 (ser), .int .i64 (siz), .int .i64 (tail), .int .i64 (num)]] w fun e w' => e = .returned (.tuple #[.string C, .int .i64 0]) ∧ Below w.heap.size w w')
    (hE2 : ∀ w, Tab w → Calls Tryd.prog 11 #[.agg #[.int .u64 ((key : Nat) : Int), .int .i64 (ep), .int .i64 (ser + 1), .int .i64 (siz), .int .i64 (a), .int .i64 (b)]] w fun e w' => e = .returned (.tuple #[.string F1, .int .i64 0]) ∧ Below w.heap.size w w')
    (hS1 : ∀ w, Calls Tryd.prog 15 #[.agg #[.int .u64 ((key : Nat) : Int), .int .i64 (ep), .int .i64 (ser), .int .i64 (siz), .int .i64 (tail), .int .i64 (num)]] w fun e w' => e = .returned (.int .i64 0) ∧ Below w.heap.size w w')
    (hS2 : ∀ w, Calls Tryd.prog 15 #[.agg #[.int .u64 ((key : Nat) : Int), .int .i64 (ep), .int .i64 (ser + 1), .int .i64 (siz), .int .i64 (a), .int .i64 (b)]] w fun e w' => e = .returned (.int .i64 1) ∧ Below w.heap.size w w')
    (hP : ∀ w, Tab w → Calls Tryd.prog 18 #[.string C, .string Z] w fun e w' => e = .returned (.tuple #[.agg #[.int .u64 ((key : Nat) : Int), .int .i64 (ep), .int .i64 (ser), .int .i64 (siz), .int .i64 (tail), .int .i64 (num)], .int .i64 (0), .int .i64 0]) ∧ Below w.heap.size w w')
    (hSx : ∀ w, Calls Tryd.prog 15 #[.agg #[.int .u64 ((key : Nat) : Int), .int .i64 (ep), .int .i64 (ser), .int .i64 (siz), .int .i64 (tail), .int .i64 (num)]] w fun e w' => e = .returned (.int .i64 (0)) ∧ Below w.heap.size w w')
    (hZ : Hid (str (List.replicate 64 0) = Z))
    (W : World) (T : Tab W) : Calls Tryd.prog 7 #[.agg #[.int .u64 ((key : Nat) : Int), .int .i64 (ep), .int .i64 (ser), .int .i64 (siz), .int .i64 (tail), .int .i64 (num)], .agg #[.int .i64 a, .int .i64 b], .int .i64 how] W fun e w' => e = .returned (.bool true) ∧ Below W.heap.size W w' := by
  have BB := Below.refl W.heap.size W
  have b1 := below_alloc W (.cells #[.int .u64 ((key : Nat) : Int), .int .i64 (ep), .int .i64 (ser), .int .i64 (siz), .int .i64 (tail), .int .i64 (num)] 24)
  have X : BoxC (W.alloc (.cells #[.int .u64 ((key : Nat) : Int), .int .i64 (ep), .int .i64 (ser), .int .i64 (siz), .int .i64 (tail), .int .i64 (num)] 24)) W.heap.size (key) (ep) (ser) (siz) (tail) (num) := boxC W (key) (ep) (ser) (siz) (tail) (num) 24
  replace BB := BB.trans (b1.mono BB.size)
  clear b1
  have Xc0_1 := X.c0
  have Xc1_1 := X.c1
  have Xc2_1 := X.c2
  have Xc3_1 := X.c3
  have Xc4_1 := X.c4
  have Xc5_1 := X.c5
  have b2 := below_alloc (W.alloc (.cells #[.int .u64 ((key : Nat) : Int), .int .i64 (ep), .int .i64 (ser), .int .i64 (siz), .int .i64 (tail), .int .i64 (num)] 24)) (.cells #[.int .i64 a, .int .i64 b] 49)
  have D : R2 ((W.alloc (.cells #[.int .u64 ((key : Nat) : Int), .int .i64 (ep), .int .i64 (ser), .int .i64 (siz), .int .i64 (tail), .int .i64 (num)] 24)).alloc (.cells #[.int .i64 a, .int .i64 b] 49)) (W.alloc (.cells #[.int .u64 ((key : Nat) : Int), .int .i64 (ep), .int .i64 (ser), .int .i64 (siz), .int .i64 (tail), .int .i64 (num)] 24)).heap.size (.int .i64 a) (.int .i64 b) := r2_new _ _ _ _
  simp only [World.size_alloc] at D
  replace X := X.later (b2.mono X.lt)
  replace BB := BB.trans (b2.mono BB.size)
  clear b2
  have Xc0_2 := X.c0
  have Xc1_2 := X.c1
  have Xc2_2 := X.c2
  have Xc3_2 := X.c3
  have Xc4_2 := X.c4
  have Xc5_2 := X.c5
  have Dc0_3 := D.c0
  have Dc1_3 := D.c1
  go_enter Tryd.func7, Tryd.ntmps7
  go_wp2_with fail
  refine (hPl _).mono ?_
  rintro e w3 ⟨rfl, b3⟩
  clear Xc0_2 Xc1_2 Xc2_2 Xc3_2 Xc4_2 Xc5_2
  clear Dc0_3 Dc1_3
  clear Xc0_1 Xc1_1 Xc2_1 Xc3_1 Xc4_1 Xc5_1
  replace X := X.later (b3.mono X.lt)
  replace D := D.later (b3.mono D.lt)
  replace BB := BB.trans (b3.mono BB.size)
  clear b3 
  have Xc0_4 := X.c0
  have Xc1_4 := X.c1
  have Xc2_4 := X.c2
  have Xc3_4 := X.c3
  have Xc4_4 := X.c4
  have Xc5_4 := X.c5
  have Dc0_5 := D.c0
  have Dc1_5 := D.c1
  go_wp2_with fail
  refine (hRc _).mono ?_
  rintro e w4 ⟨rfl, b4⟩
  clear Xc0_4 Xc1_4 Xc2_4 Xc3_4 Xc4_4 Xc5_4
  clear Dc0_5 Dc1_5
  replace X := X.later (b4.mono X.lt)
  replace D := D.later (b4.mono D.lt)
  replace BB := BB.trans (b4.mono BB.size)
  clear b4 
  have Xc0_6 := X.c0
  have Xc1_6 := X.c1
  have Xc2_6 := X.c2
  have Xc3_6 := X.c3
  have Xc4_6 := X.c4
  have Xc5_6 := X.c5
  have Dc0_7 := D.c0
  have Dc1_7 := D.c1
  go_wp2_with fail
  refine (hN _).mono ?_
  rintro e w5 ⟨rfl, b5⟩
  clear Xc0_6 Xc1_6 Xc2_6 Xc3_6 Xc4_6 Xc5_6
  clear Dc0_7 Dc1_7
  replace X := X.later (b5.mono X.lt)
  replace D := D.later (b5.mono D.lt)
  replace BB := BB.trans (b5.mono BB.size)
  clear b5 
  have Xc0_8 := X.c0
  have Xc1_8 := X.c1
  have Xc2_8 := X.c2
  have Xc3_8 := X.c3
  have Xc4_8 := X.c4
  have Xc5_8 := X.c5
  have Dc0_9 := D.c0
  have Dc1_9 := D.c1
  have b6 := below_alloc w5 (.cells #[.int .u64 ((key : Nat) : Int), .int .i64 (ep), .int .i64 (ser + 1), .int .i64 (siz), .int .i64 (a), .int .i64 (b)] 24)
  have Y : BoxC (w5.alloc (.cells #[.int .u64 ((key : Nat) : Int), .int .i64 (ep), .int .i64 (ser + 1), .int .i64 (siz), .int .i64 (a), .int .i64 (b)] 24)) w5.heap.size (key) (ep) (ser + 1) (siz) (a) (b) := boxC w5 (key) (ep) (ser + 1) (siz) (a) (b) 24
  replace X := X.later (b6.mono X.lt)
  replace D := D.later (b6.mono D.lt)
  replace BB := BB.trans (b6.mono BB.size)
  clear b6
  have Xc0_10 := X.c0
  have Xc1_10 := X.c1
  have Xc2_10 := X.c2
  have Xc3_10 := X.c3
  have Xc4_10 := X.c4
  have Xc5_10 := X.c5
  have Dc0_11 := D.c0
  have Dc1_11 := D.c1
  have Yc0_12 := Y.c0
  have Yc1_12 := Y.c1
  have Yc2_12 := Y.c2
  have Yc3_12 := Y.c3
  have Yc4_12 := Y.c4
  have Yc5_12 := Y.c5
  go_wp2_with fail
  refine (hE1 _ (T.later BB)).mono ?_
  rintro e w7 ⟨rfl, b7⟩
  clear Xc0_10 Xc1_10 Xc2_10 Xc3_10 Xc4_10 Xc5_10
  clear Dc0_11 Dc1_11
  clear Yc0_12 Yc1_12 Yc2_12 Yc3_12 Yc4_12 Yc5_12
  clear Xc0_8 Xc1_8 Xc2_8 Xc3_8 Xc4_8 Xc5_8 Dc0_9 Dc1_9
  replace X := X.later (b7.mono X.lt)
  replace D := D.later (b7.mono D.lt)
  replace Y := Y.later (b7.mono Y.lt)
  replace BB := BB.trans (b7.mono BB.size)
  clear b7 
  have Xc0_13 := X.c0
  have Xc1_13 := X.c1
  have Xc2_13 := X.c2
  have Xc3_13 := X.c3
  have Xc4_13 := X.c4
  have Xc5_13 := X.c5
  have Dc0_14 := D.c0
  have Dc1_14 := D.c1
  have Yc0_15 := Y.c0
  have Yc1_15 := Y.c1
  have Yc2_15 := Y.c2
  have Yc3_15 := Y.c3
  have Yc4_15 := Y.c4
  have Yc5_15 := Y.c5
  go_wp2_with fail
  refine (hE2 _ (T.later BB)).mono ?_
  rintro e w8 ⟨rfl, b8⟩
  clear Xc0_13 Xc1_13 Xc2_13 Xc3_13 Xc4_13 Xc5_13
  clear Dc0_14 Dc1_14
  clear Yc0_15 Yc1_15 Yc2_15 Yc3_15 Yc4_15 Yc5_15
  replace X := X.later (b8.mono X.lt)
  replace D := D.later (b8.mono D.lt)
  replace Y := Y.later (b8.mono Y.lt)
  replace BB := BB.trans (b8.mono BB.size)
  clear b8 
  have Xc0_16 := X.c0
  have Xc1_16 := X.c1
  have Xc2_16 := X.c2
  have Xc3_16 := X.c3
  have Xc4_16 := X.c4
  have Xc5_16 := X.c5
  have Dc0_17 := D.c0
  have Dc1_17 := D.c1
  have Yc0_18 := Y.c0
  have Yc1_18 := Y.c1
  have Yc2_18 := Y.c2
  have Yc3_18 := Y.c3
  have Yc4_18 := Y.c4
  have Yc5_18 := Y.c5
  clear Xc0_16 Xc1_16 Xc2_16 Xc3_16 Xc4_16 Xc5_16
  clear Dc0_17 Dc1_17
  clear Yc0_18 Yc1_18 Yc2_18 Yc3_18 Yc4_18 Yc5_18
  have hne9 := later_ne w8
  have qX0 : ∀ p : Later w8, p.val.cell? ⟨W.heap.size, 0, none⟩ = some (.int .u64 ((key : Nat) : Int)) := fun p => (X.later (p.below.mono X.lt)).c0
  have qX1 : ∀ p : Later w8, p.val.cell? ⟨W.heap.size, 1, none⟩ = some (.int .i64 (ep)) := fun p => (X.later (p.below.mono X.lt)).c1
  have qX2 : ∀ p : Later w8, p.val.cell? ⟨W.heap.size, 2, none⟩ = some (.int .i64 (ser)) := fun p => (X.later (p.below.mono X.lt)).c2
  have qX3 : ∀ p : Later w8, p.val.cell? ⟨W.heap.size, 3, none⟩ = some (.int .i64 (siz)) := fun p => (X.later (p.below.mono X.lt)).c3
  have qX4 : ∀ p : Later w8, p.val.cell? ⟨W.heap.size, 4, none⟩ = some (.int .i64 (tail)) := fun p => (X.later (p.below.mono X.lt)).c4
  have qX5 : ∀ p : Later w8, p.val.cell? ⟨W.heap.size, 5, none⟩ = some (.int .i64 (num)) := fun p => (X.later (p.below.mono X.lt)).c5
  have qY0 : ∀ p : Later w8, p.val.cell? ⟨w5.heap.size, 0, none⟩ = some (.int .u64 ((key : Nat) : Int)) := fun p => (Y.later (p.below.mono Y.lt)).c0
  have qY1 : ∀ p : Later w8, p.val.cell? ⟨w5.heap.size, 1, none⟩ = some (.int .i64 (ep)) := fun p => (Y.later (p.below.mono Y.lt)).c1
  have qY2 : ∀ p : Later w8, p.val.cell? ⟨w5.heap.size, 2, none⟩ = some (.int .i64 (ser + 1)) := fun p => (Y.later (p.below.mono Y.lt)).c2
  have qY3 : ∀ p : Later w8, p.val.cell? ⟨w5.heap.size, 3, none⟩ = some (.int .i64 (siz)) := fun p => (Y.later (p.below.mono Y.lt)).c3
  have qY4 : ∀ p : Later w8, p.val.cell? ⟨w5.heap.size, 4, none⟩ = some (.int .i64 (a)) := fun p => (Y.later (p.below.mono Y.lt)).c4
  have qY5 : ∀ p : Later w8, p.val.cell? ⟨w5.heap.size, 5, none⟩ = some (.int .i64 (b)) := fun p => (Y.later (p.below.mono Y.lt)).c5
  go_wp2
  refine wp_region_later (by kernel_rfl) (by kernel_rfl) ?_
  (repeat (first | go_big_quiet_skip | (go_big_quiet_want; go_big_quiet_op; go_big_quiet_on)))
  (go_big_quiet_want; go_big_quiet_op; apply Exists.intro; refine ⟨fun p => ?_, ?_⟩; (· exact later_of (hS1 _)); go_big_quiet_on)
  (repeat (first | go_big_quiet_skip | (go_big_quiet_want; go_big_quiet_op; go_big_quiet_on)))
  (go_big_quiet_want; go_big_quiet_op; apply Exists.intro; refine ⟨fun p => ?_, ?_⟩; (· exact later_of (hS2 _)); go_big_quiet_on)
  (repeat (first | go_big_quiet_skip | (go_big_quiet_want; go_big_quiet_op; go_big_quiet_on)))
  refine wpQuiet_nil ?_
  rintro _ ⟨p9, rfl⟩
  replace X := X.later (p9.below.mono X.lt)
  replace D := D.later (p9.below.mono D.lt)
  replace Y := Y.later (p9.below.mono Y.lt)
  replace BB := BB.trans (p9.below.mono BB.size)
  clear hne9 qX0 qX1 qX2 qX3 qX4 qX5 qY0 qY1 qY2 qY3 qY4 qY5
  have hmk : (Instr.makeSlice 47 (.int .i64 64) (.int .i64 64)).run Tryd.prog p9.val = .ok (.slice (some ⟨p9.val.heap.size, 0, none⟩) 64 64) (p9.val.alloc (.cells (zs 64) 5)) := make_bytes (N := 64) (by omega) _
  have hcv : (convert 47 9 (.slice (some ⟨p9.val.heap.size, 0, none⟩) 64 64)).run Tryd.prog (p9.val.alloc (.cells (zs 64) 5)) = .ok (.string Z) (p9.val.alloc (.cells (zs 64) 5)) := by rw [← hZ.out]; exact conv_rep (fun i hi => by simp [zs_get hi])
  generalize hzz : zs 64 = ZZ at *
  have b10 := below_alloc p9.val (.cells ZZ 5)
  replace X := X.later (b10.mono X.lt)
  replace D := D.later (b10.mono D.lt)
  replace Y := Y.later (b10.mono Y.lt)
  replace BB := BB.trans (b10.mono BB.size)
  clear b10
  have Xc0_19 := X.c0
  have Xc1_19 := X.c1
  have Xc2_19 := X.c2
  have Xc3_19 := X.c3
  have Xc4_19 := X.c4
  have Xc5_19 := X.c5
  have b11 := below_alloc (p9.val.alloc (.cells ZZ 5)) (.cells #[.string Z, .string C] 9)
  have L : R2 ((p9.val.alloc (.cells ZZ 5)).alloc (.cells #[.string Z, .string C] 9)) (p9.val.alloc (.cells ZZ 5)).heap.size (.string Z) (.string C) := r2_new _ _ _ _
  simp only [World.size_alloc] at L
  replace X := X.later (b11.mono X.lt)
  replace D := D.later (b11.mono D.lt)
  replace Y := Y.later (b11.mono Y.lt)
  replace BB := BB.trans (b11.mono BB.size)
  clear b11
  have Xc0_20 := X.c0
  have Xc1_20 := X.c1
  have Xc2_20 := X.c2
  have Xc3_20 := X.c3
  have Xc4_20 := X.c4
  have Xc5_20 := X.c5
  have Lc0_21 := L.c0
  have Lc1_21 := L.c1
  have Xc0_22 := X.c0
  have Xc1_22 := X.c1
  have Xc2_22 := X.c2
  have Xc3_22 := X.c3
  have Xc4_22 := X.c4
  have Xc5_22 := X.c5
  go_wp2_with fail
  refine (hS1 _).mono ?_
  rintro e w12 ⟨rfl, b12⟩
  clear Xc0_22 Xc1_22 Xc2_22 Xc3_22 Xc4_22 Xc5_22
  clear Lc0_21 Lc1_21
  clear Xc0_19 Xc1_19 Xc2_19 Xc3_19 Xc4_19 Xc5_19 Xc0_20 Xc1_20 Xc2_20 Xc3_20 Xc4_20 Xc5_20
  replace X := X.later (b12.mono X.lt)
  replace D := D.later (b12.mono D.lt)
  replace Y := Y.later (b12.mono Y.lt)
  replace L := L.later (b12.mono L.lt)
  replace BB := BB.trans (b12.mono BB.size)
  clear b12 hmk hcv
  have Xc0_23 := X.c0
  have Xc1_23 := X.c1
  have Xc2_23 := X.c2
  have Xc3_23 := X.c3
  have Xc4_23 := X.c4
  have Xc5_23 := X.c5
  have Lc0_24 := L.c0
  have Lc1_24 := L.c1
  have b13 := below_alloc w12 (.cells #[.string C, .string Z] 9)
  have M : R2 (w12.alloc (.cells #[.string C, .string Z] 9)) w12.heap.size (.string C) (.string Z) := r2_new _ _ _ _
  replace X := X.later (b13.mono X.lt)
  replace D := D.later (b13.mono D.lt)
  replace Y := Y.later (b13.mono Y.lt)
  replace L := L.later (b13.mono L.lt)
  replace BB := BB.trans (b13.mono BB.size)
  clear b13
  have Xc0_25 := X.c0
  have Xc1_25 := X.c1
  have Xc2_25 := X.c2
  have Xc3_25 := X.c3
  have Xc4_25 := X.c4
  have Xc5_25 := X.c5
  have Lc0_26 := L.c0
  have Lc1_26 := L.c1
  have Mc0_27 := M.c0
  have Mc1_27 := M.c1
  clear Xc0_25 Xc1_25 Xc2_25 Xc3_25 Xc4_25 Xc5_25
  clear Lc0_26 Lc1_26
  clear Mc0_27 Mc1_27
  clear Xc0_23 Xc1_23 Xc2_23 Xc3_23 Xc4_23 Xc5_23 Lc0_24 Lc1_24
  go_wp2
  generalize hwb : (w12.alloc (.cells #[.string C, .string Z] 9)) = wb0 at *
  have TQ := T.later BB
  refine wp_region_specs_mid (n := 12) [.val (.slice (some ⟨w12.heap.size, 0, none⟩) 2 2), .val (.pointer (some ⟨w12.heap.size, 0, none⟩)), .val (.string C), .val (.slice (some ⟨w12.heap.size, 0, none⟩) 2 2), .val (.pointer (some ⟨w12.heap.size, 1, none⟩)), .val (.string Z), .val (.tuple #[.agg #[.int .u64 ((key : Nat) : Int), .int .i64 (ep), .int .i64 (ser), .int .i64 (siz), .int .i64 (tail), .int .i64 (num)], .int .i64 (0), .int .i64 0]), .val (.tuple #[.agg #[.int .u64 ((key : Nat) : Int), .int .i64 (ep), .int .i64 (ser), .int .i64 (siz), .int .i64 (tail), .int .i64 (num)], .int .i64 (0), .int .i64 0]), .val (.agg #[.int .u64 ((key : Nat) : Int), .int .i64 (ep), .int .i64 (ser), .int .i64 (siz), .int .i64 (tail), .int .i64 (num)]), .val (.int .i64 (0)), .val (.int .i64 0), .nbox wb0.heap.size, .val (undef), .val (.int .i64 (0)), .val (.int .i64 0)] [.val (.slice (some ⟨w12.heap.size, 0, none⟩) 2 2), .val (.pointer (some ⟨w12.heap.size, 0, none⟩)), .val (.string C), .val (.slice (some ⟨w12.heap.size, 0, none⟩) 2 2), .val (.pointer (some ⟨w12.heap.size, 1, none⟩)), .val (.string Z), .val (.tuple #[.agg #[.int .u64 ((key : Nat) : Int), .int .i64 (ep), .int .i64 (ser), .int .i64 (siz), .int .i64 (tail), .int .i64 (num)], .int .i64 (0), .int .i64 0]), .val (.tuple #[.agg #[.int .u64 ((key : Nat) : Int), .int .i64 (ep), .int .i64 (ser), .int .i64 (siz), .int .i64 (tail), .int .i64 (num)], .int .i64 (0), .int .i64 0]), .val (.agg #[.int .u64 ((key : Nat) : Int), .int .i64 (ep), .int .i64 (ser), .int .i64 (siz), .int .i64 (tail), .int .i64 (num)]), .val (.int .i64 (0)), .val (.int .i64 0), .sbox wb0.heap.size (key) (ep) (ser) (siz) (tail) (num), .val (undef), .val (.int .i64 (0)), .val (.int .i64 0)] (by kernel_rfl) (by kernel_rfl) rfl rfl rfl ?_ ?_ ?_ ?_
  · refine ⟨?_, ?_⟩
    · intro hp A w1 hb ho hd
      clear hp
      have e17 : A.tmps[17]?.getD undef = .slice (some ⟨w12.heap.size, 0, none⟩) 2 2 := olds_get ho 17 (by kernel_rfl)
      refine ⟨rfl, goes_value (v := .slice (some ⟨w12.heap.size, 0, none⟩) 2 2) ?_ rfl⟩
      simp [go_sem, e17]
    refine ⟨?_, ?_⟩
    · intro hp A w1 hb ho hd
      clear hp
      have e107 : A.tmps[107]?.getD undef = .slice (some ⟨w12.heap.size, 0, none⟩) 2 2 := getq (hd _ (Array.mem_of_getElem? (i := 0) rfl) rfl _ _ rfl rfl)
      refine ⟨rfl, goes_value (v := .pointer (some ⟨w12.heap.size, 0, none⟩)) ?_ rfl⟩
      simp [go_sem, e107]
    refine ⟨?_, ?_⟩
    · intro hp A w1 hb ho hd
      clear hp
      have e108 : A.tmps[108]?.getD undef = .pointer (some ⟨w12.heap.size, 0, none⟩) := getq (hd _ (Array.mem_of_getElem? (i := 0) rfl) rfl _ _ rfl rfl)
      have cz := (M.later (hb.mono M.lt)).c0
      refine ⟨rfl, goes_value (v := .string C) ?_ rfl⟩
      simp [go_sem, e108, cz]
    refine ⟨?_, ?_⟩
    · intro hp A w1 hb ho hd
      clear hp
      have e17 : A.tmps[17]?.getD undef = .slice (some ⟨w12.heap.size, 0, none⟩) 2 2 := olds_get ho 17 (by kernel_rfl)
      refine ⟨rfl, goes_value (v := .slice (some ⟨w12.heap.size, 0, none⟩) 2 2) ?_ rfl⟩
      simp [go_sem, e17]
    refine ⟨?_, ?_⟩
    · intro hp A w1 hb ho hd
      clear hp
      have e110 : A.tmps[110]?.getD undef = .slice (some ⟨w12.heap.size, 0, none⟩) 2 2 := getq (hd _ (Array.mem_of_getElem? (i := 0) rfl) rfl _ _ rfl rfl)
      refine ⟨rfl, goes_value (v := .pointer (some ⟨w12.heap.size, 1, none⟩)) ?_ rfl⟩
      simp [go_sem, e110]
    refine ⟨?_, ?_⟩
    · intro hp A w1 hb ho hd
      clear hp
      have e111 : A.tmps[111]?.getD undef = .pointer (some ⟨w12.heap.size, 1, none⟩) := getq (hd _ (Array.mem_of_getElem? (i := 0) rfl) rfl _ _ rfl rfl)
      have cz := (M.later (hb.mono M.lt)).c1
      refine ⟨rfl, goes_value (v := .string Z) ?_ rfl⟩
      simp [go_sem, e111, cz]
    refine ⟨?_, ?_⟩
    · intro hp A w1 hb ho hd
      clear hp
      have e109 : A.tmps[109]?.getD undef = .string C := getq (hd _ (Array.mem_of_getElem? (i := 0) rfl) rfl _ _ rfl rfl)
      have e112 : A.tmps[112]?.getD undef = .string Z := getq (hd _ (Array.mem_of_getElem? (i := 1) rfl) rfl _ _ rfl rfl)
      refine ⟨rfl, goes_call (f := 18) (args := #[.string C, .string Z]) ?_ (hP w1 (TQ.later hb))⟩
      simp [go_sem, e109, e112]
    refine ⟨?_, ?_⟩
    · intro hp A w1 hb ho hd
      clear hp
      have e113 : A.tmps[113]?.getD undef = .tuple #[.agg #[.int .u64 ((key : Nat) : Int), .int .i64 (ep), .int .i64 (ser), .int .i64 (siz), .int .i64 (tail), .int .i64 (num)], .int .i64 (0), .int .i64 0] := getq (hd _ (Array.mem_of_getElem? (i := 0) rfl) rfl _ _ rfl rfl)
      refine ⟨rfl, goes_value (v := .tuple #[.agg #[.int .u64 ((key : Nat) : Int), .int .i64 (ep), .int .i64 (ser), .int .i64 (siz), .int .i64 (tail), .int .i64 (num)], .int .i64 (0), .int .i64 0]) ?_ rfl⟩
      simp [go_sem, e113]
    refine ⟨?_, ?_⟩
    · intro hp A w1 hb ho hd
      clear hp
      have e106 : A.tmps[106]?.getD undef = .tuple #[.agg #[.int .u64 ((key : Nat) : Int), .int .i64 (ep), .int .i64 (ser), .int .i64 (siz), .int .i64 (tail), .int .i64 (num)], .int .i64 (0), .int .i64 0] := getq (hd _ (Array.mem_of_getElem? (i := 0) rfl) rfl _ _ rfl rfl)
      refine ⟨rfl, goes_value (v := .agg #[.int .u64 ((key : Nat) : Int), .int .i64 (ep), .int .i64 (ser), .int .i64 (siz), .int .i64 (tail), .int .i64 (num)]) ?_ rfl⟩
      simp [go_sem, e106]
    refine ⟨?_, ?_⟩
    · intro hp A w1 hb ho hd
      clear hp
      have e106 : A.tmps[106]?.getD undef = .tuple #[.agg #[.int .u64 ((key : Nat) : Int), .int .i64 (ep), .int .i64 (ser), .int .i64 (siz), .int .i64 (tail), .int .i64 (num)], .int .i64 (0), .int .i64 0] := getq (hd _ (Array.mem_of_getElem? (i := 0) rfl) rfl _ _ rfl rfl)
      refine ⟨rfl, goes_value (v := .int .i64 (0)) ?_ rfl⟩
      simp [go_sem, e106]
    refine ⟨?_, ?_⟩
    · intro hp A w1 hb ho hd
      clear hp
      have e106 : A.tmps[106]?.getD undef = .tuple #[.agg #[.int .u64 ((key : Nat) : Int), .int .i64 (ep), .int .i64 (ser), .int .i64 (siz), .int .i64 (tail), .int .i64 (num)], .int .i64 (0), .int .i64 0] := getq (hd _ (Array.mem_of_getElem? (i := 0) rfl) rfl _ _ rfl rfl)
      refine ⟨rfl, goes_value (v := .int .i64 0) ?_ rfl⟩
      simp [go_sem, e106]
    refine ⟨?_, ?_⟩
    · intro hp A w1 hb ho hd
      clear hp
      refine ⟨rfl, goes_alloc (v := .pointer (some ⟨w1.heap.size, 0, none⟩)) (o := .cells #[.int .u64 ((0 : Nat) : Int), .int .i64 0, .int .i64 0, .int .i64 0, .int .i64 0, .int .i64 0] 24) ?_ ⟨_, rfl, hb.size, boxC _ 0 0 0 0 0 0 24⟩⟩
      simp [go_sem]
    refine ⟨?_, ?_⟩
    · exact fun hp => absurd hp (by decide)
    refine ⟨?_, ?_⟩
    · intro hp A w1 hb ho hd
      clear hp
      have e115 : A.tmps[115]?.getD undef = .int .i64 (0) := getq (hd _ (Array.mem_of_getElem? (i := 0) rfl) rfl _ _ rfl rfl)
      refine ⟨rfl, goes_value (v := .int .i64 (0)) ?_ rfl⟩
      simp [go_sem, e115]
    refine ⟨?_, ?_⟩
    · intro hp A w1 hb ho hd
      clear hp
      have e116 : A.tmps[116]?.getD undef = .int .i64 0 := getq (hd _ (Array.mem_of_getElem? (i := 0) rfl) rfl _ _ rfl rfl)
      refine ⟨rfl, goes_value (v := .int .i64 0) ?_ rfl⟩
      simp [go_sem, e116]
    trivial
  · refine ⟨?_, ?_⟩
    · exact not_needed (by kernel_rfl)
    refine ⟨?_, ?_⟩
    · exact not_needed (by kernel_rfl)
    refine ⟨?_, ?_⟩
    · exact not_needed (by kernel_rfl)
    refine ⟨?_, ?_⟩
    · exact not_needed (by kernel_rfl)
    refine ⟨?_, ?_⟩
    · exact not_needed (by kernel_rfl)
    refine ⟨?_, ?_⟩
    · exact not_needed (by kernel_rfl)
    refine ⟨?_, ?_⟩
    · exact not_needed (by kernel_rfl)
    refine ⟨?_, ?_⟩
    · exact not_needed (by kernel_rfl)
    refine ⟨?_, ?_⟩
    · exact not_needed (by kernel_rfl)
    refine ⟨?_, ?_⟩
    · intro hp A w1 hb ho hd
      clear hp
      have e106 : A.tmps[106]?.getD undef = .tuple #[.agg #[.int .u64 ((key : Nat) : Int), .int .i64 (ep), .int .i64 (ser), .int .i64 (siz), .int .i64 (tail), .int .i64 (num)], .int .i64 (0), .int .i64 0] := getq (hd _ (Array.mem_of_getElem? (i := 0) rfl) rfl _ _ rfl rfl)
      refine ⟨rfl, goes_value (v := .int .i64 (0)) ?_ rfl⟩
      simp [go_sem, e106]
    refine ⟨?_, ?_⟩
    · intro hp A w1 hb ho hd
      clear hp
      have e106 : A.tmps[106]?.getD undef = .tuple #[.agg #[.int .u64 ((key : Nat) : Int), .int .i64 (ep), .int .i64 (ser), .int .i64 (siz), .int .i64 (tail), .int .i64 (num)], .int .i64 (0), .int .i64 0] := getq (hd _ (Array.mem_of_getElem? (i := 0) rfl) rfl _ _ rfl rfl)
      refine ⟨rfl, goes_value (v := .int .i64 0) ?_ rfl⟩
      simp [go_sem, e106]
    refine ⟨?_, ?_⟩
    · exact not_needed (by kernel_rfl)
    refine ⟨?_, ?_⟩
    · exact not_needed (by kernel_rfl)
    refine ⟨?_, ?_⟩
    · intro hp A w1 hb ho hd
      clear hp
      have e115 : A.tmps[115]?.getD undef = .int .i64 (0) := getq (hd _ (Array.mem_of_getElem? (i := 0) rfl) rfl _ _ rfl rfl)
      refine ⟨rfl, goes_value (v := .int .i64 (0)) ?_ rfl⟩
      simp [go_sem, e115]
    refine ⟨?_, ?_⟩
    · intro hp A w1 hb ho hd
      clear hp
      have e116 : A.tmps[116]?.getD undef = .int .i64 0 := getq (hd _ (Array.mem_of_getElem? (i := 0) rfl) rfl _ _ rfl rfl)
      refine ⟨rfl, goes_value (v := .int .i64 0) ?_ rfl⟩
      simp [go_sem, e116]
    trivial
  · intro A w2 hb ho hd
    obtain ⟨g, hg, hge, Zb⟩ := hd _ (Array.mem_of_getElem? (i := 0) rfl) rfl _ _ rfl rfl
    have e18 := getq hg
    have eV : A.tmps[114]?.getD undef = .agg #[.int .u64 ((key : Nat) : Int), .int .i64 (ep), .int .i64 (ser), .int .i64 (siz), .int .i64 (tail), .int .i64 (num)] := getq (hd _ (Array.mem_of_getElem? (i := 1) rfl) rfl _ _ rfl rfl)
    have zc0 := Zb.c0
    have zc1 := Zb.c1
    have zc2 := Zb.c2
    have zc3 := Zb.c3
    have zc4 := Zb.c4
    have zc5 := Zb.c5
    have zf0 := Zb.fr 0 (by omega)
    have zf1 := Zb.fr 1 (by omega)
    have zf2 := Zb.fr 2 (by omega)
    have zf3 := Zb.fr 3 (by omega)
    have zf4 := Zb.fr 4 (by omega)
    have zf5 := Zb.fr 5 (by omega)
    refine ⟨_, by simp [go_sem, e18, eV, zc0, zc1, zc2, zc3, zc4, zc5, zf0, zf1, zf2, zf3, zf4, zf5]; rfl, ?_, ?_⟩
    · exact BoxC.below Zb hb hge (key) (ep) (ser) (siz) (tail) (num)
    · intro j o d hj hdst h
      match j, hj, hdst, h with
      | 0, _, _, h => exact h
      | 1, _, _, h => exact h
      | 2, _, _, h => exact h
      | 3, _, _, h => exact h
      | 4, _, _, h => exact h
      | 5, _, _, h => exact h
      | 6, _, _, h => exact h
      | 7, _, _, h => exact h
      | 8, _, _, h => exact h
      | 9, _, _, h => exact h
      | 10, _, _, h => exact h
      | 11, hj, hdst, _ =>
        cases hj
        cases hdst
        exact ⟨g, hg, hge, Zb.put (key) (ep) (ser) (siz) (tail) (num)⟩
      | 12, _, _, h => exact h
      | 13, _, _, h => exact h
      | 14, _, _, h => exact h
      | j + 15, hj, _, _ => simp at hj
  intro A w9 hb9 hdf hsz hol hft
  obtain ⟨gx, hgx, hgxe, XN⟩ := hft 11 _ 18 rfl rfl
  have m107 : A.tmps.getD 107 undef = .slice (some ⟨w12.heap.size, 0, none⟩) 2 2 := hft 0 _ 107 rfl rfl
  have m108 : A.tmps.getD 108 undef = .pointer (some ⟨w12.heap.size, 0, none⟩) := hft 1 _ 108 rfl rfl
  have m109 : A.tmps.getD 109 undef = .string C := hft 2 _ 109 rfl rfl
  have m110 : A.tmps.getD 110 undef = .slice (some ⟨w12.heap.size, 0, none⟩) 2 2 := hft 3 _ 110 rfl rfl
  have m111 : A.tmps.getD 111 undef = .pointer (some ⟨w12.heap.size, 1, none⟩) := hft 4 _ 111 rfl rfl
  have m112 : A.tmps.getD 112 undef = .string Z := hft 5 _ 112 rfl rfl
  have m113 : A.tmps.getD 113 undef = .tuple #[.agg #[.int .u64 ((key : Nat) : Int), .int .i64 (ep), .int .i64 (ser), .int .i64 (siz), .int .i64 (tail), .int .i64 (num)], .int .i64 (0), .int .i64 0] := hft 6 _ 113 rfl rfl
  have m106 : A.tmps.getD 106 undef = .tuple #[.agg #[.int .u64 ((key : Nat) : Int), .int .i64 (ep), .int .i64 (ser), .int .i64 (siz), .int .i64 (tail), .int .i64 (num)], .int .i64 (0), .int .i64 0] := hft 7 _ 106 rfl rfl
  have m114 : A.tmps.getD 114 undef = .agg #[.int .u64 ((key : Nat) : Int), .int .i64 (ep), .int .i64 (ser), .int .i64 (siz), .int .i64 (tail), .int .i64 (num)] := hft 8 _ 114 rfl rfl
  have m115 : A.tmps.getD 115 undef = .int .i64 (0) := hft 9 _ 115 rfl rfl
  have m116 : A.tmps.getD 116 undef = .int .i64 0 := hft 10 _ 116 rfl rfl
  have m19 : A.tmps.getD 19 undef = .int .i64 (0) := hft 13 _ 19 rfl rfl
  have m20 : A.tmps.getD 20 undef = .int .i64 0 := hft 14 _ 20 rfl rfl
  rename_i KK hKK
  refine hKK _ _ ?_
  show Code.wp _ _ _ A w9
  rw [frame_puts hdf hsz hol]
  simp only [List.foldl_cons, List.foldl_nil, Act.put, Option.getD_some, m107, m108, m109, m110, m111, m112, m113, m106, m114, m115, m116, m19, m20, hgx, List.setIfInBounds_toArray, List.set_cons_succ, List.set_cons_zero]
  clear m107 m108 m109 m110 m111 m112 m113 m106 m114 m115 m116 m19 m20 hft hol hsz hdf hKK hgx
  replace X := X.later (hb9.mono X.lt)
  replace D := D.later (hb9.mono D.lt)
  replace Y := Y.later (hb9.mono Y.lt)
  replace L := L.later (hb9.mono L.lt)
  replace M := M.later (hb9.mono M.lt)
  replace BB := BB.trans (hb9.mono BB.size)
  have XNc0_28 := XN.c0
  have XNc1_28 := XN.c1
  have XNc2_28 := XN.c2
  have XNc3_28 := XN.c3
  have XNc4_28 := XN.c4
  have XNc5_28 := XN.c5
  have Xc0_29 := X.c0
  have Xc1_29 := X.c1
  have Xc2_29 := X.c2
  have Xc3_29 := X.c3
  have Xc4_29 := X.c4
  have Xc5_29 := X.c5
  have Yc0_30 := Y.c0
  have Yc1_30 := Y.c1
  have Yc2_30 := Y.c2
  have Yc3_30 := Y.c3
  have Yc4_30 := Y.c4
  have Yc5_30 := Y.c5
  go_wp2_with fail
  refine (hSx _).mono ?_
  rintro e w14 ⟨rfl, b14⟩
  clear XNc0_28 XNc1_28 XNc2_28 XNc3_28 XNc4_28 XNc5_28
  clear Xc0_29 Xc1_29 Xc2_29 Xc3_29 Xc4_29 Xc5_29
  clear Yc0_30 Yc1_30 Yc2_30 Yc3_30 Yc4_30 Yc5_30
  replace X := X.later (b14.mono X.lt)
  replace D := D.later (b14.mono D.lt)
  replace Y := Y.later (b14.mono Y.lt)
  replace L := L.later (b14.mono L.lt)
  replace M := M.later (b14.mono M.lt)
  replace XN := XN.later (b14.mono XN.lt)
  replace BB := BB.trans (b14.mono BB.size)
  clear b14 
  have XNc0_31 := XN.c0
  have XNc1_31 := XN.c1
  have XNc2_31 := XN.c2
  have XNc3_31 := XN.c3
  have XNc4_31 := XN.c4
  have XNc5_31 := XN.c5
  have Xc0_32 := X.c0
  have Xc1_32 := X.c1
  have Xc2_32 := X.c2
  have Xc3_32 := X.c3
  have Xc4_32 := X.c4
  have Xc5_32 := X.c5
  have Yc0_33 := Y.c0
  have Yc1_33 := Y.c1
  have Yc2_33 := Y.c2
  have Yc3_33 := Y.c3
  have Yc4_33 := Y.c4
  have Yc5_33 := Y.c5
  go_wp2_with fail
  refine (awake_any _ (T.later BB)).mono ?_
  rintro e w15 ⟨rfl, b15⟩
  clear XNc0_31 XNc1_31 XNc2_31 XNc3_31 XNc4_31 XNc5_31
  clear Xc0_32 Xc1_32 Xc2_32 Xc3_32 Xc4_32 Xc5_32
  clear Yc0_33 Yc1_33 Yc2_33 Yc3_33 Yc4_33 Yc5_33
  replace X := X.later (b15.mono X.lt)
  replace D := D.later (b15.mono D.lt)
  replace Y := Y.later (b15.mono Y.lt)
  replace L := L.later (b15.mono L.lt)
  replace M := M.later (b15.mono M.lt)
  replace XN := XN.later (b15.mono XN.lt)
  replace BB := BB.trans (b15.mono BB.size)
  clear b15 
  have XNc0_34 := XN.c0
  have XNc1_34 := XN.c1
  have XNc2_34 := XN.c2
  have XNc3_34 := XN.c3
  have XNc4_34 := XN.c4
  have XNc5_34 := XN.c5
  have Xc0_35 := X.c0
  have Xc1_35 := X.c1
  have Xc2_35 := X.c2
  have Xc3_35 := X.c3
  have Xc4_35 := X.c4
  have Xc5_35 := X.c5
  have Yc0_36 := Y.c0
  have Yc1_36 := Y.c1
  have Yc2_36 := Y.c2
  have Yc3_36 := Y.c3
  have Yc4_36 := Y.c4
  have Yc5_36 := Y.c5
  go_wp2
  go_ret
  exact ⟨rfl, BB⟩
end Su
end Go.Proofs.YtjopjffecnflkaaDoor
