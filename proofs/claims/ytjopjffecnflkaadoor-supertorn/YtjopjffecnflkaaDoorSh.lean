/- A part of the proofs about package super: what its functions answer, call by call. -/
import Derived.Test.YtjopjffecnflkaaDoorSg
namespace Go.Proofs.YtjopjffecnflkaaDoor
open Go.RowKit
namespace Su
open Cr
/-- What Next answers. -/
def Sb.follow (s : Sb) (t n : Int) : Sb := ⟨s.key, s.ep, s.ser + 1, s.siz, t, n⟩
def nextS (s : Sb) (t n : Int) : Sb × Int :=
  if chk s ≠ 0 then (Sb.zero, chk s) else if t < s.tail ∨ n < s.num then (Sb.zero, 1) else if chk (s.follow t n) ≠ 0 then (Sb.zero, chk (s.follow t n)) else (s.follow t n, 0)
theorem follow_fit {s : Sb} (hs : s.Fit) (hc : chk s = 0) {t n : Int} (ht : I64 t) (hn : I64 n) : (s.follow t n).Fit := by
  have h := chk_ok hc
  refine ⟨hs.k, hs.e, ?_, hs.z, ht, hn⟩
  show I64 (s.ser + 1)
  unfold I64
  omega
theorem BoxC.turn {w : World} {b key : Nat} {ep ser siz tail num : Int} (h : BoxC w b key ep ser siz tail num) (r t n : Int) : BoxC (((w.setCell ⟨b, 2, none⟩ (.int .i64 r)).setCell ⟨b, 4, none⟩ (.int .i64 t)).setCell ⟨b, 5, none⟩ (.int .i64 n)) b key ep r siz t n := by
  have c2 := h.c2
  have c4 := h.c4
  have c5 := h.c5
  refine ⟨by simpa using h.lt, ?_, ?_, ?_, ?_, ?_, ?_, fun i hi => by simp only [World.frozen?_setCell]; exact h.fr i hi⟩
  · rw [cell_ne (by decide), cell_ne (by decide), cell_ne (by decide)]; exact h.c0
  · rw [cell_ne (by decide), cell_ne (by decide), cell_ne (by decide)]; exact h.c1
  · rw [cell_ne (by decide), cell_ne (by decide)]; exact cell_eq c2
  · rw [cell_ne (by decide), cell_ne (by decide), cell_ne (by decide)]; exact h.c3
  · rw [cell_ne (by decide)]; exact cell_eq ((cell_ne (by decide)).trans c4)
  · exact cell_eq ((cell_ne (by decide)).trans ((cell_ne (by decide)).trans c5))
theorem cell_far {w : World} {b b' i j : Nat} {v : Value} (h : b ≠ b') : (w.setCell ⟨b, i, none⟩ v).cell? ⟨b', j, none⟩ = w.cell? ⟨b', j, none⟩ := World.cell?_setCell_other _ _ _ _ (fun e => h (by cases e; rfl))
theorem BoxC.far1 {w : World} {b b' key : Nat} {ep ser siz tail num : Int} (h : BoxC w b' key ep ser siz tail num) (hne : b ≠ b') (i : Nat) (v : Value) : BoxC (w.setCell ⟨b, i, none⟩ v) b' key ep ser siz tail num :=
  ⟨by simpa using h.lt, (cell_far hne).trans h.c0, (cell_far hne).trans h.c1, (cell_far hne).trans h.c2, (cell_far hne).trans h.c3, (cell_far hne).trans h.c4, (cell_far hne).trans h.c5, fun i hi => by simp only [World.frozen?_setCell]; exact h.fr i hi⟩
theorem BoxC.far {w : World} {b b' key : Nat} {ep ser siz tail num : Int} (h : BoxC w b' key ep ser siz tail num) (hne : b ≠ b') (x y z : Value) : BoxC (((w.setCell ⟨b, 2, none⟩ x).setCell ⟨b, 4, none⟩ y).setCell ⟨b, 5, none⟩ z) b' key ep ser siz tail num :=
  ((h.far1 hne _ _).far1 hne _ _).far1 hne _ _
set_option maxHeartbeats 4000000 in
theorem next_any (s : Sb) (hs : s.Fit) (t n : Int) (ht : I64 t) (hn : I64 n) (w : World) : Calls Tryd.prog 20 #[s.val, .int .i64 t, .int .i64 n] w fun e w' => e = .returned (.tuple #[(nextS s t n).1.val, .int .i64 (nextS s t n).2]) ∧ Below w.heap.size w w' := by
  have hc := fun w => schk_any s hs w
  have P := boxC w s.key s.ep s.ser s.siz s.tail s.num 24
  have B0 := below_alloc w (.cells #[.int .u64 (s.key : Nat), .int .i64 s.ep, .int .i64 s.ser, .int .i64 s.siz, .int .i64 s.tail, .int .i64 s.num] 24)
  have X := boxC (w.alloc (.cells #[.int .u64 (s.key : Nat), .int .i64 s.ep, .int .i64 s.ser, .int .i64 s.siz, .int .i64 s.tail, .int .i64 s.num] 24)) 0 0 0 0 0 0 24
  have B1 := below_alloc (w.alloc (.cells #[.int .u64 (s.key : Nat), .int .i64 s.ep, .int .i64 s.ser, .int .i64 s.siz, .int .i64 s.tail, .int .i64 s.num] 24)) (.cells #[.int .u64 (0 : Nat), .int .i64 0, .int .i64 0, .int .i64 0, .int .i64 0, .int .i64 0] 24)
  replace P := P.later (B1.mono (by simp))
  have BB := B0.trans (B1.mono (by simp))
  rw [World.size_alloc] at X
  clear B0 B1
  have hval : s.val = .agg #[.int .u64 (s.key : Nat), .int .i64 s.ep, .int .i64 s.ser, .int .i64 s.siz, .int .i64 s.tail, .int .i64 s.num] := rfl
  by_cases h0 : chk s = 0
  · have hok := chk_ok h0
    by_cases h1 : t < s.tail ∨ n < s.num
    · have hd : nextS s t n = (Sb.zero, 1) := by unfold nextS; rw [if_neg (by omega), if_pos h1]
      rw [hd]
      clear hd
      rw [h0, hval] at hc
      rw [hval]
      clear hval hs h0
      obtain ⟨key, ep, ser, siz, tail, num⟩ := s
      simp only at hc P X BB h1 hok ⊢
      clear hok
      simp only [Sb.val, Sb.zero]
      by_cases h2 : t < tail
      · clear h1
        go_enter Tryd.func20, Tryd.ntmps20
        go_wp2_with fail
        refine (hc _).mono ?_
        rintro e w1 ⟨rfl, b1⟩
        replace X := X.later (b1.mono (by simp))
        replace P := P.later (b1.mono (by simp))
        replace BB := BB.trans (b1.mono (by simp only [World.size_alloc]; omega))
        have p4 := P.c4
        have p5 := P.c5
        clear hc b1 P
        have c0 := X.c0
        have c1 := X.c1
        have c2 := X.c2
        have c3 := X.c3
        have c4 := X.c4
        have c5 := X.c5
        have f0 := X.fr 0 (by omega)
        have f1 := X.fr 1 (by omega)
        have f2 := X.fr 2 (by omega)
        have f3 := X.fr 3 (by omega)
        have f4 := X.fr 4 (by omega)
        have f5 := X.fr 5 (by omega)
        have Y := hide (X.put (0) (0) (0) (0) (0) (0))
        have YB := hide (BoxC.below X BB (by first | exact Nat.le_refl _ | exact Nat.le_succ _) (0) (0) (0) (0) (0) (0))
        clear X
        go_wp2
        have Y' := Y.out
        have d0 := Y'.c0
        have d1 := Y'.c1
        have d2 := Y'.c2
        have d3 := Y'.c3
        have d4 := Y'.c4
        have d5 := Y'.c5
        have YB' := YB.out
        clear Y Y' YB
        clear c0 c1 c2 c3 c4 c5 f0 f1 f2 f3 f4 f5 
        generalize World.setCell _ _ _ = wz at *
        refine bodyPost_ret (v := .tuple #[.agg #[.int .u64 ((0 : Nat) : Int), .int .i64 (0), .int .i64 (0), .int .i64 (0), .int .i64 (0), .int .i64 (0)], .int .i64 1]) (by simp [results, Tryd.results20, go_sem, d0, d1, d2, d3, d4, d5]) rfl ⟨rfl, YB'⟩

      · have h3 : n < num := by omega
        clear h1
        go_enter Tryd.func20, Tryd.ntmps20
        go_wp2_with fail
        refine (hc _).mono ?_
        rintro e w1 ⟨rfl, b1⟩
        replace X := X.later (b1.mono (by simp))
        replace P := P.later (b1.mono (by simp))
        replace BB := BB.trans (b1.mono (by simp only [World.size_alloc]; omega))
        have p4 := P.c4
        have p5 := P.c5
        clear hc b1 P
        have c0 := X.c0
        have c1 := X.c1
        have c2 := X.c2
        have c3 := X.c3
        have c4 := X.c4
        have c5 := X.c5
        have f0 := X.fr 0 (by omega)
        have f1 := X.fr 1 (by omega)
        have f2 := X.fr 2 (by omega)
        have f3 := X.fr 3 (by omega)
        have f4 := X.fr 4 (by omega)
        have f5 := X.fr 5 (by omega)
        have Y := hide (X.put (0) (0) (0) (0) (0) (0))
        have YB := hide (BoxC.below X BB (by first | exact Nat.le_refl _ | exact Nat.le_succ _) (0) (0) (0) (0) (0) (0))
        clear X
        go_wp2
        have Y' := Y.out
        have d0 := Y'.c0
        have d1 := Y'.c1
        have d2 := Y'.c2
        have d3 := Y'.c3
        have d4 := Y'.c4
        have d5 := Y'.c5
        have YB' := YB.out
        clear Y Y' YB
        clear c0 c1 c2 c3 c4 c5 f0 f1 f2 f3 f4 f5 
        generalize World.setCell _ _ _ = wz at *
        refine bodyPost_ret (v := .tuple #[.agg #[.int .u64 ((0 : Nat) : Int), .int .i64 (0), .int .i64 (0), .int .i64 (0), .int .i64 (0), .int .i64 (0)], .int .i64 1]) (by simp [results, Tryd.results20, go_sem, d0, d1, d2, d3, d4, d5]) rfl ⟨rfl, YB'⟩

    · have hf := follow_fit hs h0 ht hn
      have hc2 := fun w => schk_any (s.follow t n) hf w
      have hd : nextS s t n = (if chk (s.follow t n) ≠ 0 then (Sb.zero, chk (s.follow t n)) else (s.follow t n, 0)) := by unfold nextS; rw [if_neg (by omega), if_neg h1]
      rw [hd]
      clear hd
      rw [h0, hval] at hc
      rw [hval]
      clear hval hs h0 hf
      generalize chk (s.follow t n) = c at *
      obtain ⟨key, ep, ser, siz, tail, num⟩ := s
      simp only [Sb.follow, Sb.val] at hc hc2 P X BB h1 hok ⊢
      have l1 : ser < 1099511627776 := by omega
      have l0 : 0 ≤ ser := by omega
      have h2 : ¬ t < tail := by omega
      have h3 : ¬ n < num := by omega
      clear hok h1
      by_cases hc0 : c = 0
      · subst hc0
        rw [if_neg (by omega)]
        simp only
        go_enter Tryd.func20, Tryd.ntmps20
        go_wp2_with fail
        refine (hc _).mono ?_
        rintro e w1 ⟨rfl, b1⟩
        replace X := X.later (b1.mono (by simp))
        replace P := P.later (b1.mono (by simp))
        replace BB := BB.trans (b1.mono (by simp only [World.size_alloc]; omega))
        have p0 := P.c0
        have p1 := P.c1
        have p2 := P.c2
        have p3 := P.c3
        have p4 := P.c4
        have p5 := P.c5
        have q2 := P.fr 2 (by omega)
        have q4 := P.fr 4 (by omega)
        have q5 := P.fr 5 (by omega)
        have P2 := hide (P.turn (ser + 1) t n)
        have X2 := hide (X.far (show w.heap.size ≠ w.heap.size + 1 by omega) (.int .i64 (ser + 1)) (.int .i64 t) (.int .i64 n))
        have BB2 := hide (below_set (below_set (below_set BB (Nat.le_refl _) 2 (.int .i64 (ser + 1))) (Nat.le_refl _) 4 (.int .i64 t)) (Nat.le_refl _) 5 (.int .i64 n))
        clear hc b1 P X BB
        go_wp2_with fail
        refine (hc2 _).mono ?_
        rintro e w2 ⟨rfl, b2⟩
        have X := X2.out
        have P := P2.out
        have BB := BB2.out
        clear X2 P2 BB2 p0 p1 p2 p3 p4 p5 q2 q4 q5 hc2
        generalize World.setCell _ _ _ = wz at *
        replace X := X.later (b2.mono X.lt)
        replace P := P.later (b2.mono P.lt)
        replace BB := BB.trans (b2.mono BB.size)
        have p0 := P.c0
        have p1 := P.c1
        have p2 := P.c2
        have p3 := P.c3
        have p4 := P.c4
        have p5 := P.c5
        clear P b2
        have c0 := X.c0
        have c1 := X.c1
        have c2 := X.c2
        have c3 := X.c3
        have c4 := X.c4
        have c5 := X.c5
        have f0 := X.fr 0 (by omega)
        have f1 := X.fr 1 (by omega)
        have f2 := X.fr 2 (by omega)
        have f3 := X.fr 3 (by omega)
        have f4 := X.fr 4 (by omega)
        have f5 := X.fr 5 (by omega)
        have Y := hide (X.put (key) (ep) (ser + 1) (siz) (t) (n))
        have YB := hide (BoxC.below X BB (by first | exact Nat.le_refl _ | exact Nat.le_succ _) (key) (ep) (ser + 1) (siz) (t) (n))
        clear X
        go_wp2
        have Y' := Y.out
        have d0 := Y'.c0
        have d1 := Y'.c1
        have d2 := Y'.c2
        have d3 := Y'.c3
        have d4 := Y'.c4
        have d5 := Y'.c5
        have YB' := YB.out
        clear Y Y' YB
        clear c0 c1 c2 c3 c4 c5 f0 f1 f2 f3 f4 f5 
        generalize World.setCell _ _ _ = wz at *
        refine bodyPost_ret (v := .tuple #[.agg #[.int .u64 ((key : Nat) : Int), .int .i64 (ep), .int .i64 (ser + 1), .int .i64 (siz), .int .i64 (t), .int .i64 (n)], .int .i64 0]) (by simp [results, Tryd.results20, go_sem, d0, d1, d2, d3, d4, d5]) rfl ⟨rfl, YB'⟩

      · rw [if_pos hc0]
        simp only [Sb.zero]
        go_enter Tryd.func20, Tryd.ntmps20
        go_wp2_with fail
        refine (hc _).mono ?_
        rintro e w1 ⟨rfl, b1⟩
        replace X := X.later (b1.mono (by simp))
        replace P := P.later (b1.mono (by simp))
        replace BB := BB.trans (b1.mono (by simp only [World.size_alloc]; omega))
        have p0 := P.c0
        have p1 := P.c1
        have p2 := P.c2
        have p3 := P.c3
        have p4 := P.c4
        have p5 := P.c5
        have q2 := P.fr 2 (by omega)
        have q4 := P.fr 4 (by omega)
        have q5 := P.fr 5 (by omega)
        have P2 := hide (P.turn (ser + 1) t n)
        have X2 := hide (X.far (show w.heap.size ≠ w.heap.size + 1 by omega) (.int .i64 (ser + 1)) (.int .i64 t) (.int .i64 n))
        have BB2 := hide (below_set (below_set (below_set BB (Nat.le_refl _) 2 (.int .i64 (ser + 1))) (Nat.le_refl _) 4 (.int .i64 t)) (Nat.le_refl _) 5 (.int .i64 n))
        clear hc b1 P X BB
        go_wp2_with fail
        refine (hc2 _).mono ?_
        rintro e w2 ⟨rfl, b2⟩
        have X := X2.out
        have P := P2.out
        have BB := BB2.out
        clear X2 P2 BB2 p0 p1 p2 p3 p4 p5 q2 q4 q5 hc2
        generalize World.setCell _ _ _ = wz at *
        replace X := X.later (b2.mono X.lt)
        replace P := P.later (b2.mono P.lt)
        replace BB := BB.trans (b2.mono BB.size)
        have p0 := P.c0
        have p1 := P.c1
        have p2 := P.c2
        have p3 := P.c3
        have p4 := P.c4
        have p5 := P.c5
        clear P b2
        have c0 := X.c0
        have c1 := X.c1
        have c2 := X.c2
        have c3 := X.c3
        have c4 := X.c4
        have c5 := X.c5
        have f0 := X.fr 0 (by omega)
        have f1 := X.fr 1 (by omega)
        have f2 := X.fr 2 (by omega)
        have f3 := X.fr 3 (by omega)
        have f4 := X.fr 4 (by omega)
        have f5 := X.fr 5 (by omega)
        have Y := hide (X.put (0) (0) (0) (0) (0) (0))
        have YB := hide (BoxC.below X BB (by first | exact Nat.le_refl _ | exact Nat.le_succ _) (0) (0) (0) (0) (0) (0))
        clear X
        go_wp2
        have Y' := Y.out
        have d0 := Y'.c0
        have d1 := Y'.c1
        have d2 := Y'.c2
        have d3 := Y'.c3
        have d4 := Y'.c4
        have d5 := Y'.c5
        have YB' := YB.out
        clear Y Y' YB
        clear c0 c1 c2 c3 c4 c5 f0 f1 f2 f3 f4 f5 
        generalize World.setCell _ _ _ = wz at *
        refine bodyPost_ret (v := .tuple #[.agg #[.int .u64 ((0 : Nat) : Int), .int .i64 (0), .int .i64 (0), .int .i64 (0), .int .i64 (0), .int .i64 (0)], .int .i64 c]) (by simp [results, Tryd.results20, go_sem, d0, d1, d2, d3, d4, d5]) rfl ⟨rfl, YB'⟩

  · have hd : nextS s t n = (Sb.zero, chk s) := by unfold nextS; rw [if_pos h0]
    rw [hd]
    clear hd
    generalize chk s = c at *
    rw [hval] at hc ⊢
    clear hval hs
    obtain ⟨key, ep, ser, siz, tail, num⟩ := s
    simp only at hc P X BB ⊢
    simp only [Sb.val, Sb.zero]
    go_enter Tryd.func20, Tryd.ntmps20
    go_wp2_with fail
    refine (hc _).mono ?_
    rintro e w1 ⟨rfl, b1⟩
    replace X := X.later (b1.mono (by simp))
    replace BB := BB.trans (b1.mono (by simp only [World.size_alloc]; omega))
    clear hc b1 P
    have c0 := X.c0
    have c1 := X.c1
    have c2 := X.c2
    have c3 := X.c3
    have c4 := X.c4
    have c5 := X.c5
    have f0 := X.fr 0 (by omega)
    have f1 := X.fr 1 (by omega)
    have f2 := X.fr 2 (by omega)
    have f3 := X.fr 3 (by omega)
    have f4 := X.fr 4 (by omega)
    have f5 := X.fr 5 (by omega)
    have Y := hide (X.put (0) (0) (0) (0) (0) (0))
    have YB := hide (BoxC.below X BB (by first | exact Nat.le_refl _ | exact Nat.le_succ _) (0) (0) (0) (0) (0) (0))
    clear X
    go_wp2
    have Y' := Y.out
    have d0 := Y'.c0
    have d1 := Y'.c1
    have d2 := Y'.c2
    have d3 := Y'.c3
    have d4 := Y'.c4
    have d5 := Y'.c5
    have YB' := YB.out
    clear Y Y' YB
    clear c0 c1 c2 c3 c4 c5 f0 f1 f2 f3 f4 f5 
    generalize World.setCell _ _ _ = wz at *
    refine bodyPost_ret (v := .tuple #[.agg #[.int .u64 ((0 : Nat) : Int), .int .i64 (0), .int .i64 (0), .int .i64 (0), .int .i64 (0), .int .i64 (0)], .int .i64 c]) (by simp [results, Tryd.results20, go_sem, d0, d1, d2, d3, d4, d5]) rfl ⟨rfl, YB'⟩
end Su
end Go.Proofs.YtjopjffecnflkaaDoor
