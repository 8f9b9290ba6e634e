/- A part of the proofs about package super: the document's answer, call by call. -/
import Derived.Test.YtjopjffecnflkaaDoorSk
namespace Go.Proofs.YtjopjffecnflkaaDoor
open Go.RowKit
namespace Su
open Cr
/-- The document's pick. -/
def rpick (A B : Sb × Int) : Sb × Int × Int := if (A.2 = 0 ∧ A.1.ser % 2 = 0) ∧ (¬ (B.2 = 0 ∧ B.1.ser % 2 = 1) ∨ B.1.ser < A.1.ser) then (A.1, 0, 0) else if B.2 = 0 ∧ B.1.ser % 2 = 1 then (B.1, 1, 0) else (Sb.zero, 0, 15)
theorem pick_ref (a b : ByteArray) : pickS a b = rpick (decS a) (decS b) := by
  have ha := fun h => dec_ser (s := a) h
  have hb := fun h => dec_ser (s := b) h
  unfold pickS pickL
  generalize decS a = A at *
  generalize decS b = B at *
  obtain ⟨x, e⟩ := A
  obtain ⟨y, f⟩ := B
  simp only at ha hb
  unfold rpick stepK
  simp only
  have hn : Sb.no.ser = -1 := rfl
  have hz : ∀ (p : Prop) [Decidable p] (u v : Sb), p → (if p then u else v) = u := fun p _ u v h => if_pos h
  by_cases h1 : e = 0 ∧ x.ser % 2 = 0
  · have hx := ha h1.1
    have hL : (if e = 0 ∧ x.ser % 2 = 0 ∧ Sb.no.ser < x.ser then x else Sb.no) = x := if_pos ⟨h1.1, h1.2, by rw [hn]; omega⟩
    rw [hL]
    by_cases h2 : f = 0 ∧ y.ser % 2 = 1
    · have hy := hb h2.1
      by_cases h3 : x.ser < y.ser
      · rw [if_pos (show f = 0 ∧ y.ser % 2 = 1 ∧ x.ser < y.ser from ⟨h2.1, h2.2, h3⟩), if_neg (by omega), if_neg (fun h => by rcases h.2 with h | h; exact h h2; omega), if_pos h2, h2.2]
      · rw [if_neg (fun (h : f = 0 ∧ y.ser % 2 = 1 ∧ x.ser < y.ser) => h3 h.2.2), if_neg (by omega), if_pos ⟨h1, .inr (by omega)⟩, h1.2]
    · rw [if_neg (fun (h : f = 0 ∧ y.ser % 2 = 1 ∧ x.ser < y.ser) => h2 ⟨h.1, h.2.1⟩), if_neg (by omega), if_pos ⟨h1, .inl h2⟩, h1.2]
  · have hL : (if e = 0 ∧ x.ser % 2 = 0 ∧ Sb.no.ser < x.ser then x else Sb.no) = Sb.no := if_neg fun h => h1 ⟨h.1, h.2.1⟩
    rw [hL]
    by_cases h2 : f = 0 ∧ y.ser % 2 = 1
    · have hy := hb h2.1
      rw [if_pos (show f = 0 ∧ y.ser % 2 = 1 ∧ Sb.no.ser < y.ser from ⟨h2.1, h2.2, by rw [hn]; omega⟩), if_neg (by omega), if_neg (fun h => h1 h.1), if_pos h2, h2.2]
    · rw [if_neg (fun (h : f = 0 ∧ y.ser % 2 = 1 ∧ Sb.no.ser < y.ser) => h2 ⟨h.1, h.2.1⟩), if_pos hn, if_neg (fun h => h1 h.1), if_neg h2]

set_option maxRecDepth 100000 in
set_option maxHeartbeats 8000000 in
theorem pk_nn (a b : ByteArray) (xk yk : Nat) (xe xr xz xt xn ye yr yz yt yn e1 e2 : Int) (hA : ∀ w : World, Calls Tryd.prog 17 #[.string a] w fun e w' => e = .returned (.tuple #[.agg #[.int .u64 (xk : Nat), .int .i64 xe, .int .i64 xr, .int .i64 xz, .int .i64 xt, .int .i64 xn], .int .i64 e1]) ∧ Below w.heap.size w w') (hB : ∀ w : World, Calls Tryd.prog 17 #[.string b] w fun e w' => e = .returned (.tuple #[.agg #[.int .u64 (yk : Nat), .int .i64 ye, .int .i64 yr, .int .i64 yz, .int .i64 yt, .int .i64 yn], .int .i64 e2]) ∧ Below w.heap.size w w') (w : World)
    (x0 : ¬ e1 = 0) (y0 : ¬ e2 = 0) : Calls Tryd.prog 19 #[.string a, .string b] w fun e w' => e = .returned (.tuple #[.agg #[.int .u64 ((0 : Nat) : Int), .int .i64 0, .int .i64 0, .int .i64 0, .int .i64 0, .int .i64 0], .int .i64 0, .int .i64 15]) ∧ Below w.heap.size w w' := by
  have X := boxC w 0 0 0 0 0 0 27
  have BB := below_alloc w (.cells #[.int .u64 (0 : Nat), .int .i64 0, .int .i64 0, .int .i64 0, .int .i64 0, .int .i64 0] 27)
  go_enter Tryd.func19, Tryd.ntmps19
  go_wp2_with fail
  refine (hA _).mono ?_
  rintro e w1 ⟨rfl, b1⟩
  have X1 := X.later (b1.mono X.lt)
  have BB1 := BB.trans (b1.mono BB.size)
  have bb1 := below_alloc w1 (.cells #[.int .u64 (xk : Nat), .int .i64 xe, .int .i64 xr, .int .i64 xz, .int .i64 xt, .int .i64 xn] 27)
  have Y1 := boxC w1 xk xe xr xz xt xn 27
  have X2 := X1.later (bb1.mono X1.lt)
  have BB2 := BB1.trans (bb1.mono BB1.size)
  clear hA X BB b1 X1 BB1 bb1
  go_wp2_with fail
  refine (hB _).mono ?_
  rintro e w2 ⟨rfl, b2⟩
  have X3 := X2.later (b2.mono X2.lt)
  have BB3 := BB2.trans (b2.mono BB2.size)
  have Y2 := Y1.later (b2.mono Y1.lt)
  have bb2 := below_alloc w2 (.cells #[.int .u64 (yk : Nat), .int .i64 ye, .int .i64 yr, .int .i64 yz, .int .i64 yt, .int .i64 yn] 27)
  have Z1 := boxC w2 yk ye yr yz yt yn 27
  have X4 := X3.later (bb2.mono X3.lt)
  have BB4 := BB3.trans (bb2.mono BB3.size)
  have Y3 := Y2.later (bb2.mono Y2.lt)
  clear hB b2 X2 X3 BB2 BB3 Y1 Y2 bb2
  have p0 := Y3.c0
  have p1 := Y3.c1
  have p2 := Y3.c2
  have p3 := Y3.c3
  have p4 := Y3.c4
  have p5 := Y3.c5
  have q0 := Z1.c0
  have q1 := Z1.c1
  have q2 := Z1.c2
  have q3 := Z1.c3
  have q4 := Z1.c4
  have q5 := Z1.c5
  clear Y3 Z1
  have c0 := X4.c0
  have c1 := X4.c1
  have c2 := X4.c2
  have c3 := X4.c3
  have c4 := X4.c4
  have c5 := X4.c5
  have f0 := X4.fr 0 (by omega)
  have f1 := X4.fr 1 (by omega)
  have f2 := X4.fr 2 (by omega)
  have f3 := X4.fr 3 (by omega)
  have f4 := X4.fr 4 (by omega)
  have f5 := X4.fr 5 (by omega)
  have Y := hide (X4.put (0) (0) (0) (0) (0) (0))
  have YB := hide (BoxC.below X4 BB4 (by first | exact Nat.le_refl _ | exact Nat.le_succ _) (0) (0) (0) (0) (0) (0))
  clear X4
  go_wp2
  have Y' := Y.out
  have d0 := Y'.c0
  have d1 := Y'.c1
  have d2 := Y'.c2
  have d3 := Y'.c3
  have d4 := Y'.c4
  have d5 := Y'.c5
  have YB' := YB.out
  clear Y Y' YB
  clear c0 c1 c2 c3 c4 c5 f0 f1 f2 f3 f4 f5 
  generalize World.setCell _ _ _ = wz at *
  refine bodyPost_ret (v := .tuple #[.agg #[.int .u64 ((0 : Nat) : Int), .int .i64 (0), .int .i64 (0), .int .i64 (0), .int .i64 (0), .int .i64 (0)], .int .i64 0, .int .i64 15]) (by simp [results, Tryd.results19, go_sem, d0, d1, d2, d3, d4, d5]) rfl ⟨rfl, YB'⟩

set_option maxRecDepth 100000 in
set_option maxHeartbeats 8000000 in
theorem pk_ne (a b : ByteArray) (xk yk : Nat) (xe xr xz xt xn ye yr yz yt yn e1 e2 : Int) (hA : ∀ w : World, Calls Tryd.prog 17 #[.string a] w fun e w' => e = .returned (.tuple #[.agg #[.int .u64 (xk : Nat), .int .i64 xe, .int .i64 xr, .int .i64 xz, .int .i64 xt, .int .i64 xn], .int .i64 e1]) ∧ Below w.heap.size w w') (hB : ∀ w : World, Calls Tryd.prog 17 #[.string b] w fun e w' => e = .returned (.tuple #[.agg #[.int .u64 (yk : Nat), .int .i64 ye, .int .i64 yr, .int .i64 yz, .int .i64 yt, .int .i64 yn], .int .i64 e2]) ∧ Below w.heap.size w w') (w : World)
    (x0 : ¬ e1 = 0) (y0 : e2 = 0) (y1 : 0 ≤ yr) (y2 : yr % 2 = 0) : Calls Tryd.prog 19 #[.string a, .string b] w fun e w' => e = .returned (.tuple #[.agg #[.int .u64 ((0 : Nat) : Int), .int .i64 0, .int .i64 0, .int .i64 0, .int .i64 0, .int .i64 0], .int .i64 0, .int .i64 15]) ∧ Below w.heap.size w w' := by
  have X := boxC w 0 0 0 0 0 0 27
  have BB := below_alloc w (.cells #[.int .u64 (0 : Nat), .int .i64 0, .int .i64 0, .int .i64 0, .int .i64 0, .int .i64 0] 27)
  subst y0
  have y3 : Int.tmod yr 2 = 0 := by rw [Int.tmod_eq_emod_of_nonneg y1]; exact y2
  go_enter Tryd.func19, Tryd.ntmps19
  go_wp2_with fail
  refine (hA _).mono ?_
  rintro e w1 ⟨rfl, b1⟩
  have X1 := X.later (b1.mono X.lt)
  have BB1 := BB.trans (b1.mono BB.size)
  have bb1 := below_alloc w1 (.cells #[.int .u64 (xk : Nat), .int .i64 xe, .int .i64 xr, .int .i64 xz, .int .i64 xt, .int .i64 xn] 27)
  have Y1 := boxC w1 xk xe xr xz xt xn 27
  have X2 := X1.later (bb1.mono X1.lt)
  have BB2 := BB1.trans (bb1.mono BB1.size)
  clear hA X BB b1 X1 BB1 bb1
  go_wp2_with fail
  refine (hB _).mono ?_
  rintro e w2 ⟨rfl, b2⟩
  have X3 := X2.later (b2.mono X2.lt)
  have BB3 := BB2.trans (b2.mono BB2.size)
  have Y2 := Y1.later (b2.mono Y1.lt)
  have bb2 := below_alloc w2 (.cells #[.int .u64 (yk : Nat), .int .i64 ye, .int .i64 yr, .int .i64 yz, .int .i64 yt, .int .i64 yn] 27)
  have Z1 := boxC w2 yk ye yr yz yt yn 27
  have X4 := X3.later (bb2.mono X3.lt)
  have BB4 := BB3.trans (bb2.mono BB3.size)
  have Y3 := Y2.later (bb2.mono Y2.lt)
  clear hB b2 X2 X3 BB2 BB3 Y1 Y2 bb2
  have p0 := Y3.c0
  have p1 := Y3.c1
  have p2 := Y3.c2
  have p3 := Y3.c3
  have p4 := Y3.c4
  have p5 := Y3.c5
  have q0 := Z1.c0
  have q1 := Z1.c1
  have q2 := Z1.c2
  have q3 := Z1.c3
  have q4 := Z1.c4
  have q5 := Z1.c5
  clear Y3 Z1
  have c0 := X4.c0
  have c1 := X4.c1
  have c2 := X4.c2
  have c3 := X4.c3
  have c4 := X4.c4
  have c5 := X4.c5
  have f0 := X4.fr 0 (by omega)
  have f1 := X4.fr 1 (by omega)
  have f2 := X4.fr 2 (by omega)
  have f3 := X4.fr 3 (by omega)
  have f4 := X4.fr 4 (by omega)
  have f5 := X4.fr 5 (by omega)
  have Y := hide (X4.put (0) (0) (0) (0) (0) (0))
  have YB := hide (BoxC.below X4 BB4 (by first | exact Nat.le_refl _ | exact Nat.le_succ _) (0) (0) (0) (0) (0) (0))
  clear X4
  go_wp2
  have Y' := Y.out
  have d0 := Y'.c0
  have d1 := Y'.c1
  have d2 := Y'.c2
  have d3 := Y'.c3
  have d4 := Y'.c4
  have d5 := Y'.c5
  have YB' := YB.out
  clear Y Y' YB
  clear c0 c1 c2 c3 c4 c5 f0 f1 f2 f3 f4 f5 
  generalize World.setCell _ _ _ = wz at *
  refine bodyPost_ret (v := .tuple #[.agg #[.int .u64 ((0 : Nat) : Int), .int .i64 (0), .int .i64 (0), .int .i64 (0), .int .i64 (0), .int .i64 (0)], .int .i64 0, .int .i64 15]) (by simp [results, Tryd.results19, go_sem, d0, d1, d2, d3, d4, d5]) rfl ⟨rfl, YB'⟩

set_option maxRecDepth 100000 in
set_option maxHeartbeats 8000000 in
theorem pk_no (a b : ByteArray) (xk yk : Nat) (xe xr xz xt xn ye yr yz yt yn e1 e2 : Int) (hA : ∀ w : World, Calls Tryd.prog 17 #[.string a] w fun e w' => e = .returned (.tuple #[.agg #[.int .u64 (xk : Nat), .int .i64 xe, .int .i64 xr, .int .i64 xz, .int .i64 xt, .int .i64 xn], .int .i64 e1]) ∧ Below w.heap.size w w') (hB : ∀ w : World, Calls Tryd.prog 17 #[.string b] w fun e w' => e = .returned (.tuple #[.agg #[.int .u64 (yk : Nat), .int .i64 ye, .int .i64 yr, .int .i64 yz, .int .i64 yt, .int .i64 yn], .int .i64 e2]) ∧ Below w.heap.size w w') (w : World)
    (x0 : ¬ e1 = 0) (y0 : e2 = 0) (y1 : 0 ≤ yr) (y2 : yr % 2 = 1) : Calls Tryd.prog 19 #[.string a, .string b] w fun e w' => e = .returned (.tuple #[.agg #[.int .u64 ((yk : Nat) : Int), .int .i64 ye, .int .i64 yr, .int .i64 yz, .int .i64 yt, .int .i64 yn], .int .i64 1, .int .i64 0]) ∧ Below w.heap.size w w' := by
  have X := boxC w 0 0 0 0 0 0 27
  have BB := below_alloc w (.cells #[.int .u64 (0 : Nat), .int .i64 0, .int .i64 0, .int .i64 0, .int .i64 0, .int .i64 0] 27)
  subst y0
  have y3 : Int.tmod yr 2 = 1 := by rw [Int.tmod_eq_emod_of_nonneg y1]; exact y2
  go_enter Tryd.func19, Tryd.ntmps19
  go_wp2_with fail
  refine (hA _).mono ?_
  rintro e w1 ⟨rfl, b1⟩
  have X1 := X.later (b1.mono X.lt)
  have BB1 := BB.trans (b1.mono BB.size)
  have bb1 := below_alloc w1 (.cells #[.int .u64 (xk : Nat), .int .i64 xe, .int .i64 xr, .int .i64 xz, .int .i64 xt, .int .i64 xn] 27)
  have Y1 := boxC w1 xk xe xr xz xt xn 27
  have X2 := X1.later (bb1.mono X1.lt)
  have BB2 := BB1.trans (bb1.mono BB1.size)
  clear hA X BB b1 X1 BB1 bb1
  go_wp2_with fail
  refine (hB _).mono ?_
  rintro e w2 ⟨rfl, b2⟩
  have X3 := X2.later (b2.mono X2.lt)
  have BB3 := BB2.trans (b2.mono BB2.size)
  have Y2 := Y1.later (b2.mono Y1.lt)
  have bb2 := below_alloc w2 (.cells #[.int .u64 (yk : Nat), .int .i64 ye, .int .i64 yr, .int .i64 yz, .int .i64 yt, .int .i64 yn] 27)
  have Z1 := boxC w2 yk ye yr yz yt yn 27
  have X4 := X3.later (bb2.mono X3.lt)
  have BB4 := BB3.trans (bb2.mono BB3.size)
  have Y3 := Y2.later (bb2.mono Y2.lt)
  clear hB b2 X2 X3 BB2 BB3 Y1 Y2 bb2
  have p0 := Y3.c0
  have p1 := Y3.c1
  have p2 := Y3.c2
  have p3 := Y3.c3
  have p4 := Y3.c4
  have p5 := Y3.c5
  have q0 := Z1.c0
  have q1 := Z1.c1
  have q2 := Z1.c2
  have q3 := Z1.c3
  have q4 := Z1.c4
  have q5 := Z1.c5
  clear Y3 Z1
  have c0 := X4.c0
  have c1 := X4.c1
  have c2 := X4.c2
  have c3 := X4.c3
  have c4 := X4.c4
  have c5 := X4.c5
  have f0 := X4.fr 0 (by omega)
  have f1 := X4.fr 1 (by omega)
  have f2 := X4.fr 2 (by omega)
  have f3 := X4.fr 3 (by omega)
  have f4 := X4.fr 4 (by omega)
  have f5 := X4.fr 5 (by omega)
  have Y := hide (X4.put (yk) (ye) (yr) (yz) (yt) (yn))
  have YB := hide (BoxC.below X4 BB4 (by first | exact Nat.le_refl _ | exact Nat.le_succ _) (yk) (ye) (yr) (yz) (yt) (yn))
  clear X4
  go_wp2
  have Y' := Y.out
  have d0 := Y'.c0
  have d1 := Y'.c1
  have d2 := Y'.c2
  have d3 := Y'.c3
  have d4 := Y'.c4
  have d5 := Y'.c5
  have YB' := YB.out
  clear Y Y' YB
  clear c0 c1 c2 c3 c4 c5 f0 f1 f2 f3 f4 f5 
  generalize World.setCell _ _ _ = wz at *
  refine bodyPost_ret (v := .tuple #[.agg #[.int .u64 ((yk : Nat) : Int), .int .i64 (ye), .int .i64 (yr), .int .i64 (yz), .int .i64 (yt), .int .i64 (yn)], .int .i64 1, .int .i64 0]) (by simp [results, Tryd.results19, go_sem, d0, d1, d2, d3, d4, d5]) rfl ⟨rfl, YB'⟩

set_option maxRecDepth 100000 in
set_option maxHeartbeats 8000000 in
theorem pk_en (a b : ByteArray) (xk yk : Nat) (xe xr xz xt xn ye yr yz yt yn e1 e2 : Int) (hA : ∀ w : World, Calls Tryd.prog 17 #[.string a] w fun e w' => e = .returned (.tuple #[.agg #[.int .u64 (xk : Nat), .int .i64 xe, .int .i64 xr, .int .i64 xz, .int .i64 xt, .int .i64 xn], .int .i64 e1]) ∧ Below w.heap.size w w') (hB : ∀ w : World, Calls Tryd.prog 17 #[.string b] w fun e w' => e = .returned (.tuple #[.agg #[.int .u64 (yk : Nat), .int .i64 ye, .int .i64 yr, .int .i64 yz, .int .i64 yt, .int .i64 yn], .int .i64 e2]) ∧ Below w.heap.size w w') (w : World)
    (x0 : e1 = 0) (x1 : 0 ≤ xr) (x2 : xr % 2 = 0) (y0 : ¬ e2 = 0) : Calls Tryd.prog 19 #[.string a, .string b] w fun e w' => e = .returned (.tuple #[.agg #[.int .u64 ((xk : Nat) : Int), .int .i64 xe, .int .i64 xr, .int .i64 xz, .int .i64 xt, .int .i64 xn], .int .i64 0, .int .i64 0]) ∧ Below w.heap.size w w' := by
  have X := boxC w 0 0 0 0 0 0 27
  have BB := below_alloc w (.cells #[.int .u64 (0 : Nat), .int .i64 0, .int .i64 0, .int .i64 0, .int .i64 0, .int .i64 0] 27)
  subst x0
  have x3 : Int.tmod xr 2 = 0 := by rw [Int.tmod_eq_emod_of_nonneg x1]; exact x2
  go_enter Tryd.func19, Tryd.ntmps19
  go_wp2_with fail
  refine (hA _).mono ?_
  rintro e w1 ⟨rfl, b1⟩
  have X1 := X.later (b1.mono X.lt)
  have BB1 := BB.trans (b1.mono BB.size)
  have bb1 := below_alloc w1 (.cells #[.int .u64 (xk : Nat), .int .i64 xe, .int .i64 xr, .int .i64 xz, .int .i64 xt, .int .i64 xn] 27)
  have Y1 := boxC w1 xk xe xr xz xt xn 27
  have X2 := X1.later (bb1.mono X1.lt)
  have BB2 := BB1.trans (bb1.mono BB1.size)
  clear hA X BB b1 X1 BB1 bb1
  go_wp2_with fail
  refine (hB _).mono ?_
  rintro e w2 ⟨rfl, b2⟩
  have X3 := X2.later (b2.mono X2.lt)
  have BB3 := BB2.trans (b2.mono BB2.size)
  have Y2 := Y1.later (b2.mono Y1.lt)
  have bb2 := below_alloc w2 (.cells #[.int .u64 (yk : Nat), .int .i64 ye, .int .i64 yr, .int .i64 yz, .int .i64 yt, .int .i64 yn] 27)
  have Z1 := boxC w2 yk ye yr yz yt yn 27
  have X4 := X3.later (bb2.mono X3.lt)
  have BB4 := BB3.trans (bb2.mono BB3.size)
  have Y3 := Y2.later (bb2.mono Y2.lt)
  clear hB b2 X2 X3 BB2 BB3 Y1 Y2 bb2
  have p0 := Y3.c0
  have p1 := Y3.c1
  have p2 := Y3.c2
  have p3 := Y3.c3
  have p4 := Y3.c4
  have p5 := Y3.c5
  have q0 := Z1.c0
  have q1 := Z1.c1
  have q2 := Z1.c2
  have q3 := Z1.c3
  have q4 := Z1.c4
  have q5 := Z1.c5
  clear Y3 Z1
  have c0 := X4.c0
  have c1 := X4.c1
  have c2 := X4.c2
  have c3 := X4.c3
  have c4 := X4.c4
  have c5 := X4.c5
  have f0 := X4.fr 0 (by omega)
  have f1 := X4.fr 1 (by omega)
  have f2 := X4.fr 2 (by omega)
  have f3 := X4.fr 3 (by omega)
  have f4 := X4.fr 4 (by omega)
  have f5 := X4.fr 5 (by omega)
  have Y := hide (X4.put (xk) (xe) (xr) (xz) (xt) (xn))
  have YB := hide (BoxC.below X4 BB4 (by first | exact Nat.le_refl _ | exact Nat.le_succ _) (xk) (xe) (xr) (xz) (xt) (xn))
  clear X4
  go_wp2
  have Y' := Y.out
  have d0 := Y'.c0
  have d1 := Y'.c1
  have d2 := Y'.c2
  have d3 := Y'.c3
  have d4 := Y'.c4
  have d5 := Y'.c5
  have YB' := YB.out
  clear Y Y' YB
  clear c0 c1 c2 c3 c4 c5 f0 f1 f2 f3 f4 f5 
  generalize World.setCell _ _ _ = wz at *
  refine bodyPost_ret (v := .tuple #[.agg #[.int .u64 ((xk : Nat) : Int), .int .i64 (xe), .int .i64 (xr), .int .i64 (xz), .int .i64 (xt), .int .i64 (xn)], .int .i64 0, .int .i64 0]) (by simp [results, Tryd.results19, go_sem, d0, d1, d2, d3, d4, d5]) rfl ⟨rfl, YB'⟩

set_option maxRecDepth 100000 in
set_option maxHeartbeats 8000000 in
theorem pk_ee (a b : ByteArray) (xk yk : Nat) (xe xr xz xt xn ye yr yz yt yn e1 e2 : Int) (hA : ∀ w : World, Calls Tryd.prog 17 #[.string a] w fun e w' => e = .returned (.tuple #[.agg #[.int .u64 (xk : Nat), .int .i64 xe, .int .i64 xr, .int .i64 xz, .int .i64 xt, .int .i64 xn], .int .i64 e1]) ∧ Below w.heap.size w w') (hB : ∀ w : World, Calls Tryd.prog 17 #[.string b] w fun e w' => e = .returned (.tuple #[.agg #[.int .u64 (yk : Nat), .int .i64 ye, .int .i64 yr, .int .i64 yz, .int .i64 yt, .int .i64 yn], .int .i64 e2]) ∧ Below w.heap.size w w') (w : World)
    (x0 : e1 = 0) (x1 : 0 ≤ xr) (x2 : xr % 2 = 0) (y0 : e2 = 0) (y1 : 0 ≤ yr) (y2 : yr % 2 = 0) : Calls Tryd.prog 19 #[.string a, .string b] w fun e w' => e = .returned (.tuple #[.agg #[.int .u64 ((xk : Nat) : Int), .int .i64 xe, .int .i64 xr, .int .i64 xz, .int .i64 xt, .int .i64 xn], .int .i64 0, .int .i64 0]) ∧ Below w.heap.size w w' := by
  have X := boxC w 0 0 0 0 0 0 27
  have BB := below_alloc w (.cells #[.int .u64 (0 : Nat), .int .i64 0, .int .i64 0, .int .i64 0, .int .i64 0, .int .i64 0] 27)
  subst x0
  have x3 : Int.tmod xr 2 = 0 := by rw [Int.tmod_eq_emod_of_nonneg x1]; exact x2
  subst y0
  have y3 : Int.tmod yr 2 = 0 := by rw [Int.tmod_eq_emod_of_nonneg y1]; exact y2
  go_enter Tryd.func19, Tryd.ntmps19
  go_wp2_with fail
  refine (hA _).mono ?_
  rintro e w1 ⟨rfl, b1⟩
  have X1 := X.later (b1.mono X.lt)
  have BB1 := BB.trans (b1.mono BB.size)
  have bb1 := below_alloc w1 (.cells #[.int .u64 (xk : Nat), .int .i64 xe, .int .i64 xr, .int .i64 xz, .int .i64 xt, .int .i64 xn] 27)
  have Y1 := boxC w1 xk xe xr xz xt xn 27
  have X2 := X1.later (bb1.mono X1.lt)
  have BB2 := BB1.trans (bb1.mono BB1.size)
  clear hA X BB b1 X1 BB1 bb1
  go_wp2_with fail
  refine (hB _).mono ?_
  rintro e w2 ⟨rfl, b2⟩
  have X3 := X2.later (b2.mono X2.lt)
  have BB3 := BB2.trans (b2.mono BB2.size)
  have Y2 := Y1.later (b2.mono Y1.lt)
  have bb2 := below_alloc w2 (.cells #[.int .u64 (yk : Nat), .int .i64 ye, .int .i64 yr, .int .i64 yz, .int .i64 yt, .int .i64 yn] 27)
  have Z1 := boxC w2 yk ye yr yz yt yn 27
  have X4 := X3.later (bb2.mono X3.lt)
  have BB4 := BB3.trans (bb2.mono BB3.size)
  have Y3 := Y2.later (bb2.mono Y2.lt)
  clear hB b2 X2 X3 BB2 BB3 Y1 Y2 bb2
  have p0 := Y3.c0
  have p1 := Y3.c1
  have p2 := Y3.c2
  have p3 := Y3.c3
  have p4 := Y3.c4
  have p5 := Y3.c5
  have q0 := Z1.c0
  have q1 := Z1.c1
  have q2 := Z1.c2
  have q3 := Z1.c3
  have q4 := Z1.c4
  have q5 := Z1.c5
  clear Y3 Z1
  have c0 := X4.c0
  have c1 := X4.c1
  have c2 := X4.c2
  have c3 := X4.c3
  have c4 := X4.c4
  have c5 := X4.c5
  have f0 := X4.fr 0 (by omega)
  have f1 := X4.fr 1 (by omega)
  have f2 := X4.fr 2 (by omega)
  have f3 := X4.fr 3 (by omega)
  have f4 := X4.fr 4 (by omega)
  have f5 := X4.fr 5 (by omega)
  have Y := hide (X4.put (xk) (xe) (xr) (xz) (xt) (xn))
  have YB := hide (BoxC.below X4 BB4 (by first | exact Nat.le_refl _ | exact Nat.le_succ _) (xk) (xe) (xr) (xz) (xt) (xn))
  clear X4
  go_wp2
  have Y' := Y.out
  have d0 := Y'.c0
  have d1 := Y'.c1
  have d2 := Y'.c2
  have d3 := Y'.c3
  have d4 := Y'.c4
  have d5 := Y'.c5
  have YB' := YB.out
  clear Y Y' YB
  clear c0 c1 c2 c3 c4 c5 f0 f1 f2 f3 f4 f5 
  generalize World.setCell _ _ _ = wz at *
  refine bodyPost_ret (v := .tuple #[.agg #[.int .u64 ((xk : Nat) : Int), .int .i64 (xe), .int .i64 (xr), .int .i64 (xz), .int .i64 (xt), .int .i64 (xn)], .int .i64 0, .int .i64 0]) (by simp [results, Tryd.results19, go_sem, d0, d1, d2, d3, d4, d5]) rfl ⟨rfl, YB'⟩

set_option maxRecDepth 100000 in
set_option maxHeartbeats 8000000 in
theorem pk_eo1 (a b : ByteArray) (xk yk : Nat) (xe xr xz xt xn ye yr yz yt yn e1 e2 : Int) (hA : ∀ w : World, Calls Tryd.prog 17 #[.string a] w fun e w' => e = .returned (.tuple #[.agg #[.int .u64 (xk : Nat), .int .i64 xe, .int .i64 xr, .int .i64 xz, .int .i64 xt, .int .i64 xn], .int .i64 e1]) ∧ Below w.heap.size w w') (hB : ∀ w : World, Calls Tryd.prog 17 #[.string b] w fun e w' => e = .returned (.tuple #[.agg #[.int .u64 (yk : Nat), .int .i64 ye, .int .i64 yr, .int .i64 yz, .int .i64 yt, .int .i64 yn], .int .i64 e2]) ∧ Below w.heap.size w w') (w : World)
    (x0 : e1 = 0) (x1 : 0 ≤ xr) (x2 : xr % 2 = 0) (y0 : e2 = 0) (y1 : 0 ≤ yr) (y2 : yr % 2 = 1) (hlt : yr < xr) : Calls Tryd.prog 19 #[.string a, .string b] w fun e w' => e = .returned (.tuple #[.agg #[.int .u64 ((xk : Nat) : Int), .int .i64 xe, .int .i64 xr, .int .i64 xz, .int .i64 xt, .int .i64 xn], .int .i64 0, .int .i64 0]) ∧ Below w.heap.size w w' := by
  have X := boxC w 0 0 0 0 0 0 27
  have BB := below_alloc w (.cells #[.int .u64 (0 : Nat), .int .i64 0, .int .i64 0, .int .i64 0, .int .i64 0, .int .i64 0] 27)
  subst x0
  have x3 : Int.tmod xr 2 = 0 := by rw [Int.tmod_eq_emod_of_nonneg x1]; exact x2
  subst y0
  have y3 : Int.tmod yr 2 = 1 := by rw [Int.tmod_eq_emod_of_nonneg y1]; exact y2
  go_enter Tryd.func19, Tryd.ntmps19
  go_wp2_with fail
  refine (hA _).mono ?_
  rintro e w1 ⟨rfl, b1⟩
  have X1 := X.later (b1.mono X.lt)
  have BB1 := BB.trans (b1.mono BB.size)
  have bb1 := below_alloc w1 (.cells #[.int .u64 (xk : Nat), .int .i64 xe, .int .i64 xr, .int .i64 xz, .int .i64 xt, .int .i64 xn] 27)
  have Y1 := boxC w1 xk xe xr xz xt xn 27
  have X2 := X1.later (bb1.mono X1.lt)
  have BB2 := BB1.trans (bb1.mono BB1.size)
  clear hA X BB b1 X1 BB1 bb1
  go_wp2_with fail
  refine (hB _).mono ?_
  rintro e w2 ⟨rfl, b2⟩
  have X3 := X2.later (b2.mono X2.lt)
  have BB3 := BB2.trans (b2.mono BB2.size)
  have Y2 := Y1.later (b2.mono Y1.lt)
  have bb2 := below_alloc w2 (.cells #[.int .u64 (yk : Nat), .int .i64 ye, .int .i64 yr, .int .i64 yz, .int .i64 yt, .int .i64 yn] 27)
  have Z1 := boxC w2 yk ye yr yz yt yn 27
  have X4 := X3.later (bb2.mono X3.lt)
  have BB4 := BB3.trans (bb2.mono BB3.size)
  have Y3 := Y2.later (bb2.mono Y2.lt)
  clear hB b2 X2 X3 BB2 BB3 Y1 Y2 bb2
  have p0 := Y3.c0
  have p1 := Y3.c1
  have p2 := Y3.c2
  have p3 := Y3.c3
  have p4 := Y3.c4
  have p5 := Y3.c5
  have q0 := Z1.c0
  have q1 := Z1.c1
  have q2 := Z1.c2
  have q3 := Z1.c3
  have q4 := Z1.c4
  have q5 := Z1.c5
  clear Y3 Z1
  have c0 := X4.c0
  have c1 := X4.c1
  have c2 := X4.c2
  have c3 := X4.c3
  have c4 := X4.c4
  have c5 := X4.c5
  have f0 := X4.fr 0 (by omega)
  have f1 := X4.fr 1 (by omega)
  have f2 := X4.fr 2 (by omega)
  have f3 := X4.fr 3 (by omega)
  have f4 := X4.fr 4 (by omega)
  have f5 := X4.fr 5 (by omega)
  have Y := hide (X4.put (xk) (xe) (xr) (xz) (xt) (xn))
  have YB := hide (BoxC.below X4 BB4 (by first | exact Nat.le_refl _ | exact Nat.le_succ _) (xk) (xe) (xr) (xz) (xt) (xn))
  clear X4
  go_wp2
  have Y' := Y.out
  have d0 := Y'.c0
  have d1 := Y'.c1
  have d2 := Y'.c2
  have d3 := Y'.c3
  have d4 := Y'.c4
  have d5 := Y'.c5
  have YB' := YB.out
  clear Y Y' YB
  clear c0 c1 c2 c3 c4 c5 f0 f1 f2 f3 f4 f5 
  generalize World.setCell _ _ _ = wz at *
  refine bodyPost_ret (v := .tuple #[.agg #[.int .u64 ((xk : Nat) : Int), .int .i64 (xe), .int .i64 (xr), .int .i64 (xz), .int .i64 (xt), .int .i64 (xn)], .int .i64 0, .int .i64 0]) (by simp [results, Tryd.results19, go_sem, d0, d1, d2, d3, d4, d5]) rfl ⟨rfl, YB'⟩

set_option maxRecDepth 100000 in
set_option maxHeartbeats 8000000 in
theorem pk_eo2 (a b : ByteArray) (xk yk : Nat) (xe xr xz xt xn ye yr yz yt yn e1 e2 : Int) (hA : ∀ w : World, Calls Tryd.prog 17 #[.string a] w fun e w' => e = .returned (.tuple #[.agg #[.int .u64 (xk : Nat), .int .i64 xe, .int .i64 xr, .int .i64 xz, .int .i64 xt, .int .i64 xn], .int .i64 e1]) ∧ Below w.heap.size w w') (hB : ∀ w : World, Calls Tryd.prog 17 #[.string b] w fun e w' => e = .returned (.tuple #[.agg #[.int .u64 (yk : Nat), .int .i64 ye, .int .i64 yr, .int .i64 yz, .int .i64 yt, .int .i64 yn], .int .i64 e2]) ∧ Below w.heap.size w w') (w : World)
    (x0 : e1 = 0) (x1 : 0 ≤ xr) (x2 : xr % 2 = 0) (y0 : e2 = 0) (y1 : 0 ≤ yr) (y2 : yr % 2 = 1) (hlt : ¬ yr < xr) : Calls Tryd.prog 19 #[.string a, .string b] w fun e w' => e = .returned (.tuple #[.agg #[.int .u64 ((yk : Nat) : Int), .int .i64 ye, .int .i64 yr, .int .i64 yz, .int .i64 yt, .int .i64 yn], .int .i64 1, .int .i64 0]) ∧ Below w.heap.size w w' := by
  have X := boxC w 0 0 0 0 0 0 27
  have BB := below_alloc w (.cells #[.int .u64 (0 : Nat), .int .i64 0, .int .i64 0, .int .i64 0, .int .i64 0, .int .i64 0] 27)
  subst x0
  have x3 : Int.tmod xr 2 = 0 := by rw [Int.tmod_eq_emod_of_nonneg x1]; exact x2
  subst y0
  have y3 : Int.tmod yr 2 = 1 := by rw [Int.tmod_eq_emod_of_nonneg y1]; exact y2
  go_enter Tryd.func19, Tryd.ntmps19
  go_wp2_with fail
  refine (hA _).mono ?_
  rintro e w1 ⟨rfl, b1⟩
  have X1 := X.later (b1.mono X.lt)
  have BB1 := BB.trans (b1.mono BB.size)
  have bb1 := below_alloc w1 (.cells #[.int .u64 (xk : Nat), .int .i64 xe, .int .i64 xr, .int .i64 xz, .int .i64 xt, .int .i64 xn] 27)
  have Y1 := boxC w1 xk xe xr xz xt xn 27
  have X2 := X1.later (bb1.mono X1.lt)
  have BB2 := BB1.trans (bb1.mono BB1.size)
  clear hA X BB b1 X1 BB1 bb1
  go_wp2_with fail
  refine (hB _).mono ?_
  rintro e w2 ⟨rfl, b2⟩
  have X3 := X2.later (b2.mono X2.lt)
  have BB3 := BB2.trans (b2.mono BB2.size)
  have Y2 := Y1.later (b2.mono Y1.lt)
  have bb2 := below_alloc w2 (.cells #[.int .u64 (yk : Nat), .int .i64 ye, .int .i64 yr, .int .i64 yz, .int .i64 yt, .int .i64 yn] 27)
  have Z1 := boxC w2 yk ye yr yz yt yn 27
  have X4 := X3.later (bb2.mono X3.lt)
  have BB4 := BB3.trans (bb2.mono BB3.size)
  have Y3 := Y2.later (bb2.mono Y2.lt)
  clear hB b2 X2 X3 BB2 BB3 Y1 Y2 bb2
  have p0 := Y3.c0
  have p1 := Y3.c1
  have p2 := Y3.c2
  have p3 := Y3.c3
  have p4 := Y3.c4
  have p5 := Y3.c5
  have q0 := Z1.c0
  have q1 := Z1.c1
  have q2 := Z1.c2
  have q3 := Z1.c3
  have q4 := Z1.c4
  have q5 := Z1.c5
  clear Y3 Z1
  have c0 := X4.c0
  have c1 := X4.c1
  have c2 := X4.c2
  have c3 := X4.c3
  have c4 := X4.c4
  have c5 := X4.c5
  have f0 := X4.fr 0 (by omega)
  have f1 := X4.fr 1 (by omega)
  have f2 := X4.fr 2 (by omega)
  have f3 := X4.fr 3 (by omega)
  have f4 := X4.fr 4 (by omega)
  have f5 := X4.fr 5 (by omega)
  have Y := hide (X4.put (yk) (ye) (yr) (yz) (yt) (yn))
  have YB := hide (BoxC.below X4 BB4 (by first | exact Nat.le_refl _ | exact Nat.le_succ _) (yk) (ye) (yr) (yz) (yt) (yn))
  clear X4
  go_wp2
  have Y' := Y.out
  have d0 := Y'.c0
  have d1 := Y'.c1
  have d2 := Y'.c2
  have d3 := Y'.c3
  have d4 := Y'.c4
  have d5 := Y'.c5
  have YB' := YB.out
  clear Y Y' YB
  clear c0 c1 c2 c3 c4 c5 f0 f1 f2 f3 f4 f5 
  generalize World.setCell _ _ _ = wz at *
  refine bodyPost_ret (v := .tuple #[.agg #[.int .u64 ((yk : Nat) : Int), .int .i64 (ye), .int .i64 (yr), .int .i64 (yz), .int .i64 (yt), .int .i64 (yn)], .int .i64 1, .int .i64 0]) (by simp [results, Tryd.results19, go_sem, d0, d1, d2, d3, d4, d5]) rfl ⟨rfl, YB'⟩

set_option maxRecDepth 100000 in
set_option maxHeartbeats 8000000 in
theorem pk_on (a b : ByteArray) (xk yk : Nat) (xe xr xz xt xn ye yr yz yt yn e1 e2 : Int) (hA : ∀ w : World, Calls Tryd.prog 17 #[.string a] w fun e w' => e = .returned (.tuple #[.agg #[.int .u64 (xk : Nat), .int .i64 xe, .int .i64 xr, .int .i64 xz, .int .i64 xt, .int .i64 xn], .int .i64 e1]) ∧ Below w.heap.size w w') (hB : ∀ w : World, Calls Tryd.prog 17 #[.string b] w fun e w' => e = .returned (.tuple #[.agg #[.int .u64 (yk : Nat), .int .i64 ye, .int .i64 yr, .int .i64 yz, .int .i64 yt, .int .i64 yn], .int .i64 e2]) ∧ Below w.heap.size w w') (w : World)
    (x0 : e1 = 0) (x1 : 0 ≤ xr) (x2 : xr % 2 = 1) (y0 : ¬ e2 = 0) : Calls Tryd.prog 19 #[.string a, .string b] w fun e w' => e = .returned (.tuple #[.agg #[.int .u64 ((0 : Nat) : Int), .int .i64 0, .int .i64 0, .int .i64 0, .int .i64 0, .int .i64 0], .int .i64 0, .int .i64 15]) ∧ Below w.heap.size w w' := by
  have X := boxC w 0 0 0 0 0 0 27
  have BB := below_alloc w (.cells #[.int .u64 (0 : Nat), .int .i64 0, .int .i64 0, .int .i64 0, .int .i64 0, .int .i64 0] 27)
  subst x0
  have x3 : Int.tmod xr 2 = 1 := by rw [Int.tmod_eq_emod_of_nonneg x1]; exact x2
  go_enter Tryd.func19, Tryd.ntmps19
  go_wp2_with fail
  refine (hA _).mono ?_
  rintro e w1 ⟨rfl, b1⟩
  have X1 := X.later (b1.mono X.lt)
  have BB1 := BB.trans (b1.mono BB.size)
  have bb1 := below_alloc w1 (.cells #[.int .u64 (xk : Nat), .int .i64 xe, .int .i64 xr, .int .i64 xz, .int .i64 xt, .int .i64 xn] 27)
  have Y1 := boxC w1 xk xe xr xz xt xn 27
  have X2 := X1.later (bb1.mono X1.lt)
  have BB2 := BB1.trans (bb1.mono BB1.size)
  clear hA X BB b1 X1 BB1 bb1
  go_wp2_with fail
  refine (hB _).mono ?_
  rintro e w2 ⟨rfl, b2⟩
  have X3 := X2.later (b2.mono X2.lt)
  have BB3 := BB2.trans (b2.mono BB2.size)
  have Y2 := Y1.later (b2.mono Y1.lt)
  have bb2 := below_alloc w2 (.cells #[.int .u64 (yk : Nat), .int .i64 ye, .int .i64 yr, .int .i64 yz, .int .i64 yt, .int .i64 yn] 27)
  have Z1 := boxC w2 yk ye yr yz yt yn 27
  have X4 := X3.later (bb2.mono X3.lt)
  have BB4 := BB3.trans (bb2.mono BB3.size)
  have Y3 := Y2.later (bb2.mono Y2.lt)
  clear hB b2 X2 X3 BB2 BB3 Y1 Y2 bb2
  have p0 := Y3.c0
  have p1 := Y3.c1
  have p2 := Y3.c2
  have p3 := Y3.c3
  have p4 := Y3.c4
  have p5 := Y3.c5
  have q0 := Z1.c0
  have q1 := Z1.c1
  have q2 := Z1.c2
  have q3 := Z1.c3
  have q4 := Z1.c4
  have q5 := Z1.c5
  clear Y3 Z1
  have c0 := X4.c0
  have c1 := X4.c1
  have c2 := X4.c2
  have c3 := X4.c3
  have c4 := X4.c4
  have c5 := X4.c5
  have f0 := X4.fr 0 (by omega)
  have f1 := X4.fr 1 (by omega)
  have f2 := X4.fr 2 (by omega)
  have f3 := X4.fr 3 (by omega)
  have f4 := X4.fr 4 (by omega)
  have f5 := X4.fr 5 (by omega)
  have Y := hide (X4.put (0) (0) (0) (0) (0) (0))
  have YB := hide (BoxC.below X4 BB4 (by first | exact Nat.le_refl _ | exact Nat.le_succ _) (0) (0) (0) (0) (0) (0))
  clear X4
  go_wp2
  have Y' := Y.out
  have d0 := Y'.c0
  have d1 := Y'.c1
  have d2 := Y'.c2
  have d3 := Y'.c3
  have d4 := Y'.c4
  have d5 := Y'.c5
  have YB' := YB.out
  clear Y Y' YB
  clear c0 c1 c2 c3 c4 c5 f0 f1 f2 f3 f4 f5 
  generalize World.setCell _ _ _ = wz at *
  refine bodyPost_ret (v := .tuple #[.agg #[.int .u64 ((0 : Nat) : Int), .int .i64 (0), .int .i64 (0), .int .i64 (0), .int .i64 (0), .int .i64 (0)], .int .i64 0, .int .i64 15]) (by simp [results, Tryd.results19, go_sem, d0, d1, d2, d3, d4, d5]) rfl ⟨rfl, YB'⟩

set_option maxRecDepth 100000 in
set_option maxHeartbeats 8000000 in
theorem pk_oe (a b : ByteArray) (xk yk : Nat) (xe xr xz xt xn ye yr yz yt yn e1 e2 : Int) (hA : ∀ w : World, Calls Tryd.prog 17 #[.string a] w fun e w' => e = .returned (.tuple #[.agg #[.int .u64 (xk : Nat), .int .i64 xe, .int .i64 xr, .int .i64 xz, .int .i64 xt, .int .i64 xn], .int .i64 e1]) ∧ Below w.heap.size w w') (hB : ∀ w : World, Calls Tryd.prog 17 #[.string b] w fun e w' => e = .returned (.tuple #[.agg #[.int .u64 (yk : Nat), .int .i64 ye, .int .i64 yr, .int .i64 yz, .int .i64 yt, .int .i64 yn], .int .i64 e2]) ∧ Below w.heap.size w w') (w : World)
    (x0 : e1 = 0) (x1 : 0 ≤ xr) (x2 : xr % 2 = 1) (y0 : e2 = 0) (y1 : 0 ≤ yr) (y2 : yr % 2 = 0) : Calls Tryd.prog 19 #[.string a, .string b] w fun e w' => e = .returned (.tuple #[.agg #[.int .u64 ((0 : Nat) : Int), .int .i64 0, .int .i64 0, .int .i64 0, .int .i64 0, .int .i64 0], .int .i64 0, .int .i64 15]) ∧ Below w.heap.size w w' := by
  have X := boxC w 0 0 0 0 0 0 27
  have BB := below_alloc w (.cells #[.int .u64 (0 : Nat), .int .i64 0, .int .i64 0, .int .i64 0, .int .i64 0, .int .i64 0] 27)
  subst x0
  have x3 : Int.tmod xr 2 = 1 := by rw [Int.tmod_eq_emod_of_nonneg x1]; exact x2
  subst y0
  have y3 : Int.tmod yr 2 = 0 := by rw [Int.tmod_eq_emod_of_nonneg y1]; exact y2
  go_enter Tryd.func19, Tryd.ntmps19
  go_wp2_with fail
  refine (hA _).mono ?_
  rintro e w1 ⟨rfl, b1⟩
  have X1 := X.later (b1.mono X.lt)
  have BB1 := BB.trans (b1.mono BB.size)
  have bb1 := below_alloc w1 (.cells #[.int .u64 (xk : Nat), .int .i64 xe, .int .i64 xr, .int .i64 xz, .int .i64 xt, .int .i64 xn] 27)
  have Y1 := boxC w1 xk xe xr xz xt xn 27
  have X2 := X1.later (bb1.mono X1.lt)
  have BB2 := BB1.trans (bb1.mono BB1.size)
  clear hA X BB b1 X1 BB1 bb1
  go_wp2_with fail
  refine (hB _).mono ?_
  rintro e w2 ⟨rfl, b2⟩
  have X3 := X2.later (b2.mono X2.lt)
  have BB3 := BB2.trans (b2.mono BB2.size)
  have Y2 := Y1.later (b2.mono Y1.lt)
  have bb2 := below_alloc w2 (.cells #[.int .u64 (yk : Nat), .int .i64 ye, .int .i64 yr, .int .i64 yz, .int .i64 yt, .int .i64 yn] 27)
  have Z1 := boxC w2 yk ye yr yz yt yn 27
  have X4 := X3.later (bb2.mono X3.lt)
  have BB4 := BB3.trans (bb2.mono BB3.size)
  have Y3 := Y2.later (bb2.mono Y2.lt)
  clear hB b2 X2 X3 BB2 BB3 Y1 Y2 bb2
  have p0 := Y3.c0
  have p1 := Y3.c1
  have p2 := Y3.c2
  have p3 := Y3.c3
  have p4 := Y3.c4
  have p5 := Y3.c5
  have q0 := Z1.c0
  have q1 := Z1.c1
  have q2 := Z1.c2
  have q3 := Z1.c3
  have q4 := Z1.c4
  have q5 := Z1.c5
  clear Y3 Z1
  have c0 := X4.c0
  have c1 := X4.c1
  have c2 := X4.c2
  have c3 := X4.c3
  have c4 := X4.c4
  have c5 := X4.c5
  have f0 := X4.fr 0 (by omega)
  have f1 := X4.fr 1 (by omega)
  have f2 := X4.fr 2 (by omega)
  have f3 := X4.fr 3 (by omega)
  have f4 := X4.fr 4 (by omega)
  have f5 := X4.fr 5 (by omega)
  have Y := hide (X4.put (0) (0) (0) (0) (0) (0))
  have YB := hide (BoxC.below X4 BB4 (by first | exact Nat.le_refl _ | exact Nat.le_succ _) (0) (0) (0) (0) (0) (0))
  clear X4
  go_wp2
  have Y' := Y.out
  have d0 := Y'.c0
  have d1 := Y'.c1
  have d2 := Y'.c2
  have d3 := Y'.c3
  have d4 := Y'.c4
  have d5 := Y'.c5
  have YB' := YB.out
  clear Y Y' YB
  clear c0 c1 c2 c3 c4 c5 f0 f1 f2 f3 f4 f5 
  generalize World.setCell _ _ _ = wz at *
  refine bodyPost_ret (v := .tuple #[.agg #[.int .u64 ((0 : Nat) : Int), .int .i64 (0), .int .i64 (0), .int .i64 (0), .int .i64 (0), .int .i64 (0)], .int .i64 0, .int .i64 15]) (by simp [results, Tryd.results19, go_sem, d0, d1, d2, d3, d4, d5]) rfl ⟨rfl, YB'⟩

set_option maxRecDepth 100000 in
set_option maxHeartbeats 8000000 in
theorem pk_oo (a b : ByteArray) (xk yk : Nat) (xe xr xz xt xn ye yr yz yt yn e1 e2 : Int) (hA : ∀ w : World, Calls Tryd.prog 17 #[.string a] w fun e w' => e = .returned (.tuple #[.agg #[.int .u64 (xk : Nat), .int .i64 xe, .int .i64 xr, .int .i64 xz, .int .i64 xt, .int .i64 xn], .int .i64 e1]) ∧ Below w.heap.size w w') (hB : ∀ w : World, Calls Tryd.prog 17 #[.string b] w fun e w' => e = .returned (.tuple #[.agg #[.int .u64 (yk : Nat), .int .i64 ye, .int .i64 yr, .int .i64 yz, .int .i64 yt, .int .i64 yn], .int .i64 e2]) ∧ Below w.heap.size w w') (w : World)
    (x0 : e1 = 0) (x1 : 0 ≤ xr) (x2 : xr % 2 = 1) (y0 : e2 = 0) (y1 : 0 ≤ yr) (y2 : yr % 2 = 1) : Calls Tryd.prog 19 #[.string a, .string b] w fun e w' => e = .returned (.tuple #[.agg #[.int .u64 ((yk : Nat) : Int), .int .i64 ye, .int .i64 yr, .int .i64 yz, .int .i64 yt, .int .i64 yn], .int .i64 1, .int .i64 0]) ∧ Below w.heap.size w w' := by
  have X := boxC w 0 0 0 0 0 0 27
  have BB := below_alloc w (.cells #[.int .u64 (0 : Nat), .int .i64 0, .int .i64 0, .int .i64 0, .int .i64 0, .int .i64 0] 27)
  subst x0
  have x3 : Int.tmod xr 2 = 1 := by rw [Int.tmod_eq_emod_of_nonneg x1]; exact x2
  subst y0
  have y3 : Int.tmod yr 2 = 1 := by rw [Int.tmod_eq_emod_of_nonneg y1]; exact y2
  go_enter Tryd.func19, Tryd.ntmps19
  go_wp2_with fail
  refine (hA _).mono ?_
  rintro e w1 ⟨rfl, b1⟩
  have X1 := X.later (b1.mono X.lt)
  have BB1 := BB.trans (b1.mono BB.size)
  have bb1 := below_alloc w1 (.cells #[.int .u64 (xk : Nat), .int .i64 xe, .int .i64 xr, .int .i64 xz, .int .i64 xt, .int .i64 xn] 27)
  have Y1 := boxC w1 xk xe xr xz xt xn 27
  have X2 := X1.later (bb1.mono X1.lt)
  have BB2 := BB1.trans (bb1.mono BB1.size)
  clear hA X BB b1 X1 BB1 bb1
  go_wp2_with fail
  refine (hB _).mono ?_
  rintro e w2 ⟨rfl, b2⟩
  have X3 := X2.later (b2.mono X2.lt)
  have BB3 := BB2.trans (b2.mono BB2.size)
  have Y2 := Y1.later (b2.mono Y1.lt)
  have bb2 := below_alloc w2 (.cells #[.int .u64 (yk : Nat), .int .i64 ye, .int .i64 yr, .int .i64 yz, .int .i64 yt, .int .i64 yn] 27)
  have Z1 := boxC w2 yk ye yr yz yt yn 27
  have X4 := X3.later (bb2.mono X3.lt)
  have BB4 := BB3.trans (bb2.mono BB3.size)
  have Y3 := Y2.later (bb2.mono Y2.lt)
  clear hB b2 X2 X3 BB2 BB3 Y1 Y2 bb2
  have p0 := Y3.c0
  have p1 := Y3.c1
  have p2 := Y3.c2
  have p3 := Y3.c3
  have p4 := Y3.c4
  have p5 := Y3.c5
  have q0 := Z1.c0
  have q1 := Z1.c1
  have q2 := Z1.c2
  have q3 := Z1.c3
  have q4 := Z1.c4
  have q5 := Z1.c5
  clear Y3 Z1
  have c0 := X4.c0
  have c1 := X4.c1
  have c2 := X4.c2
  have c3 := X4.c3
  have c4 := X4.c4
  have c5 := X4.c5
  have f0 := X4.fr 0 (by omega)
  have f1 := X4.fr 1 (by omega)
  have f2 := X4.fr 2 (by omega)
  have f3 := X4.fr 3 (by omega)
  have f4 := X4.fr 4 (by omega)
  have f5 := X4.fr 5 (by omega)
  have Y := hide (X4.put (yk) (ye) (yr) (yz) (yt) (yn))
  have YB := hide (BoxC.below X4 BB4 (by first | exact Nat.le_refl _ | exact Nat.le_succ _) (yk) (ye) (yr) (yz) (yt) (yn))
  clear X4
  go_wp2
  have Y' := Y.out
  have d0 := Y'.c0
  have d1 := Y'.c1
  have d2 := Y'.c2
  have d3 := Y'.c3
  have d4 := Y'.c4
  have d5 := Y'.c5
  have YB' := YB.out
  clear Y Y' YB
  clear c0 c1 c2 c3 c4 c5 f0 f1 f2 f3 f4 f5 
  generalize World.setCell _ _ _ = wz at *
  refine bodyPost_ret (v := .tuple #[.agg #[.int .u64 ((yk : Nat) : Int), .int .i64 (ye), .int .i64 (yr), .int .i64 (yz), .int .i64 (yt), .int .i64 (yn)], .int .i64 1, .int .i64 0]) (by simp [results, Tryd.results19, go_sem, d0, d1, d2, d3, d4, d5]) rfl ⟨rfl, YB'⟩
end Su
end Go.Proofs.YtjopjffecnflkaaDoor
