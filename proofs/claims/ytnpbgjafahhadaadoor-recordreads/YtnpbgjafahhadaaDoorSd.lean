/- Records compared. -/
import Derived.Test.YtnpbgjafahhadaaDoorSc
import Derived.Test.YtnpbgjafahhadaaDoorRn
namespace Go.Proofs.YtnpbgjafahhadaaDoor
open Go.RowKit
namespace Re
open Cr
def fewB (r : Rc) : Bool := decide (r.sp.length ≤ 80) && (decide (r.da.size ≤ 2000 ∨ 32768 < r.da.size ∧ r.da.size < 40000) && decide (r.tx.size ≤ 600))
/-- Are two records the same? -/
def sameB (a b : Rc) : Bool := decide (a.ep = b.ep) && (decide (a.nu = b.nu) && (decide (a.ki = b.ki) && (decide (a.sp = b.sp) && (decide (a.da = b.da) && decide (a.tx = b.tx)))))
theorem sameB_iff {a b : Rc} : sameB a b = true ↔ a = b := by
  cases a
  cases b
  simp [sameB]
/-- A record in block c that may be written. -/
structure RAt (w : World) (c : Nat) (ep nu ki : Int) (sl : Value) (da tx : ByteArray) : Prop where
  box : BoxR w c ep nu ki sl da tx
  fr : ∀ i, w.frozen? ⟨c, i, none⟩ = false
section
variable {w w' : World} {c : Nat} {ep nu ki : Int} {sl : Value} {da tx : ByteArray}
theorem RAt.lt (h : RAt w c ep nu ki sl da tx) : c < w.heap.size := h.box.lt
theorem RAt.keep {X : Nat → Prop} (h : RAt w c ep nu ki sl da tx) (k : Keep X w w') (hx : ¬ X c) : RAt w' c ep nu ki sl da tx := ⟨h.box.keep k hx, fun i => keep_free k h.lt hx (h.fr i)⟩
theorem RAt.later (h : RAt w c ep nu ki sl da tx) (hb : Below w.heap.size w w') : RAt w' c ep nu ki sl da tx := h.keep (Keep.of_below (X := fun _ => False) hb) (fun x => x)
theorem RAt.set0 (h : RAt w c ep nu ki sl da tx) (z : Int) : RAt (w.setCell ⟨c, 0, none⟩ (.int .i64 z)) c z nu ki sl da tx :=
  ⟨⟨by rw [setSize]; exact h.lt, cell_eq h.box.c0, (cell_ne (by omega)).trans h.box.c1, (cell_ne (by omega)).trans h.box.c2, (cell_ne (by omega)).trans h.box.c3, (cell_ne (by omega)).trans h.box.c4, (cell_ne (by omega)).trans h.box.c5⟩, fun i => by rw [World.frozen?_setCell]; exact h.fr i⟩
theorem RAt.set1 (h : RAt w c ep nu ki sl da tx) (z : Int) : RAt (w.setCell ⟨c, 1, none⟩ (.int .i64 z)) c ep z ki sl da tx :=
  ⟨⟨by rw [setSize]; exact h.lt, (cell_ne (by omega)).trans h.box.c0, cell_eq h.box.c1, (cell_ne (by omega)).trans h.box.c2, (cell_ne (by omega)).trans h.box.c3, (cell_ne (by omega)).trans h.box.c4, (cell_ne (by omega)).trans h.box.c5⟩, fun i => by rw [World.frozen?_setCell]; exact h.fr i⟩
theorem RAt.set2 (h : RAt w c ep nu ki sl da tx) (z : Int) : RAt (w.setCell ⟨c, 2, none⟩ (.int .i64 z)) c ep nu z sl da tx :=
  ⟨⟨by rw [setSize]; exact h.lt, (cell_ne (by omega)).trans h.box.c0, (cell_ne (by omega)).trans h.box.c1, cell_eq h.box.c2, (cell_ne (by omega)).trans h.box.c3, (cell_ne (by omega)).trans h.box.c4, (cell_ne (by omega)).trans h.box.c5⟩, fun i => by rw [World.frozen?_setCell]; exact h.fr i⟩
theorem RAt.set3 (h : RAt w c ep nu ki sl da tx) (z : Value) : RAt (w.setCell ⟨c, 3, none⟩ (z)) c ep nu ki z da tx :=
  ⟨⟨by rw [setSize]; exact h.lt, (cell_ne (by omega)).trans h.box.c0, (cell_ne (by omega)).trans h.box.c1, (cell_ne (by omega)).trans h.box.c2, cell_eq h.box.c3, (cell_ne (by omega)).trans h.box.c4, (cell_ne (by omega)).trans h.box.c5⟩, fun i => by rw [World.frozen?_setCell]; exact h.fr i⟩
theorem RAt.set4 (h : RAt w c ep nu ki sl da tx) (z : ByteArray) : RAt (w.setCell ⟨c, 4, none⟩ (.string z)) c ep nu ki sl z tx :=
  ⟨⟨by rw [setSize]; exact h.lt, (cell_ne (by omega)).trans h.box.c0, (cell_ne (by omega)).trans h.box.c1, (cell_ne (by omega)).trans h.box.c2, (cell_ne (by omega)).trans h.box.c3, cell_eq h.box.c4, (cell_ne (by omega)).trans h.box.c5⟩, fun i => by rw [World.frozen?_setCell]; exact h.fr i⟩
theorem RAt.set5 (h : RAt w c ep nu ki sl da tx) (z : ByteArray) : RAt (w.setCell ⟨c, 5, none⟩ (.string z)) c ep nu ki sl da z :=
  ⟨⟨by rw [setSize]; exact h.lt, (cell_ne (by omega)).trans h.box.c0, (cell_ne (by omega)).trans h.box.c1, (cell_ne (by omega)).trans h.box.c2, (cell_ne (by omega)).trans h.box.c3, (cell_ne (by omega)).trans h.box.c4, cell_eq h.box.c5⟩, fun i => by rw [World.frozen?_setCell]; exact h.fr i⟩
end
theorem rNew (w : World) (t : TypeId) : RAt (w.alloc (.cells #[.int .i64 0, .int .i64 0, .int .i64 0, .slice none 0 0, .string { data := #[] }, .string { data := #[] }] t)) w.heap.size 0 0 0 (.slice none 0 0) ⟨#[]⟩ ⟨#[]⟩ :=
  ⟨⟨by simp, by simp, by simp, by simp, by simp, by simp, by simp⟩, fun i => by simp⟩
set_option maxHeartbeats 2000000 in
theorem few_rec_any (ep nu ki : Int) (a : Option Addr) (n cap : Nat) (xs : List (Int × Int)) (da tx : ByteArray) (w : World) (hl : n = xs.length) (hn : n ≤ 9223372036854775807) (ht : tx.size ≤ 9223372036854775807) (hd : da.size ≤ 9223372036854775807) :
    Calls Tryd.prog 9 #[.agg #[.int .i64 ep, .int .i64 nu, .int .i64 ki, .slice a n cap, .string da, .string tx]] w fun e w' => e = .returned (.bool (fewB ⟨ep, nu, ki, xs, da, tx⟩)) ∧ Below w.heap.size w w' := by
  obtain ⟨X, hX⟩ : ∃ X, Hid (X = fewB ⟨ep, nu, ki, xs, da, tx⟩) := ⟨_, rfl⟩
  rw [← hX.out]
  have HL := hide hl
  clear hl
  go_enter Tryd.func9, Tryd.ntmps9
  by_cases g1 : n ≤ 80
  · skip
    by_cases g2 : da.size ≤ 2000
    · skip
      by_cases g3 : tx.size ≤ 600
      · skip
        obtain rfl : X = true := by
          have := hX.out
          unfold fewB at this
          simp only at this
          have hL := HL.out
          rw [this]
          simp only [Bool.and_eq_true, decide_eq_true_eq]
          omega
        clear hX
        go_wp2
        go_ret
        exact ⟨by first | rfl | exact congrArg (fun b => Ending.returned (Value.bool b)) (by simp; omega), (below_alloc _ _)⟩
      · skip
        obtain rfl : X = false := by
          have := hX.out
          unfold fewB at this
          simp only at this
          have hL := HL.out
          rw [this]
          simp only [Bool.and_eq_false_iff, decide_eq_false_iff_not]
          omega
        clear hX
        go_wp2
        go_ret
        exact ⟨by first | rfl | exact congrArg (fun b => Ending.returned (Value.bool b)) (by simp; omega), (below_alloc _ _)⟩
    · skip
      by_cases g4 : 32768 < da.size
      · skip
        by_cases g5 : da.size < 40000
        · skip
          by_cases g3 : tx.size ≤ 600
          · skip
            obtain rfl : X = true := by
              have := hX.out
              unfold fewB at this
              simp only at this
              have hL := HL.out
              rw [this]
              simp only [Bool.and_eq_true, decide_eq_true_eq]
              omega
            clear hX
            go_wp2
            go_ret
            exact ⟨by first | rfl | exact congrArg (fun b => Ending.returned (Value.bool b)) (by simp; omega), (below_alloc _ _)⟩
          · skip
            obtain rfl : X = false := by
              have := hX.out
              unfold fewB at this
              simp only at this
              have hL := HL.out
              rw [this]
              simp only [Bool.and_eq_false_iff, decide_eq_false_iff_not]
              omega
            clear hX
            go_wp2
            go_ret
            exact ⟨by first | rfl | exact congrArg (fun b => Ending.returned (Value.bool b)) (by simp; omega), (below_alloc _ _)⟩
        · skip
          obtain rfl : X = false := by
            have := hX.out
            unfold fewB at this
            simp only at this
            have hL := HL.out
            rw [this]
            simp only [Bool.and_eq_false_iff, decide_eq_false_iff_not]
            omega
          clear hX
          go_wp2
          go_ret
          exact ⟨by first | rfl | exact congrArg (fun b => Ending.returned (Value.bool b)) (by simp; omega), (below_alloc _ _)⟩
      · skip
        obtain rfl : X = false := by
          have := hX.out
          unfold fewB at this
          simp only at this
          have hL := HL.out
          rw [this]
          simp only [Bool.and_eq_false_iff, decide_eq_false_iff_not]
          omega
        clear hX
        go_wp2
        go_ret
        exact ⟨by first | rfl | exact congrArg (fun b => Ending.returned (Value.bool b)) (by simp; omega), (below_alloc _ _)⟩
  · skip
    obtain rfl : X = false := by
      have := hX.out
      unfold fewB at this
      simp only at this
      have hL := HL.out
      rw [this]
      simp only [Bool.and_eq_false_iff, decide_eq_false_iff_not]
      omega
    clear hX
    go_wp2
    go_ret
    exact ⟨by first | rfl | exact congrArg (fun b => Ending.returned (Value.bool b)) (by simp; omega), (below_alloc _ _)⟩

set_option maxHeartbeats 4000000 in
theorem plain_any (ep nu ki : Int) (a : Option Addr) (n cap : Nat) (da tx : ByteArray) (w : World) :
    Calls Tryd.prog 12 #[.agg #[.int .i64 ep, .int .i64 nu, .int .i64 ki, .slice a n cap, .string da, .string tx]] w fun e w' => e = .returned (.agg #[.int .i64 ep, .int .i64 nu, .int .i64 ki, .slice a n cap, .string da, .string tx]) ∧ Below w.heap.size w w' := by
  have hA := below_alloc w (.cells #[.int .i64 ep, .int .i64 nu, .int .i64 ki, .slice a n cap, .string da, .string tx] 24)
  have X0 := boxR w ep nu ki (.slice a n cap) da tx 24
  have hs1 : (w.alloc (.cells #[.int .i64 ep, .int .i64 nu, .int .i64 ki, .slice a n cap, .string da, .string tx] 24)).heap.size = w.heap.size + 1 := by simp
  generalize hW1 : w.alloc (.cells #[.int .i64 ep, .int .i64 nu, .int .i64 ki, .slice a n cap, .string da, .string tx] 24) = W1 at *
  have hZ := rNew W1 29
  have hA2 := below_alloc W1 (.cells #[.int .i64 0, .int .i64 0, .int .i64 0, .slice none 0 0, .string { data := #[] }, .string { data := #[] }] 29)
  have X1 := X0.later (hA2.mono X0.lt)
  have BB := hA.trans (hA2.mono hA.size)
  generalize hW2 : W1.alloc (.cells #[.int .i64 0, .int .i64 0, .int .i64 0, .slice none 0 0, .string { data := #[] }, .string { data := #[] }] 29) = W2 at *
  have c0 := X1.c0
  have c1 := X1.c1
  have c2 := X1.c2
  have c3 := X1.c3
  have c4 := X1.c4
  have c5 := X1.c5
  have z0 := hZ.box.c0
  have z1 := hZ.box.c1
  have z2 := hZ.box.c2
  have z3 := hZ.box.c3
  have z4 := hZ.box.c4
  have z5 := hZ.box.c5
  have y0 := hZ.fr 0
  have y1 := hZ.fr 1
  have y2 := hZ.fr 2
  have y3 := hZ.fr 3
  have y4 := hZ.fr 4
  have y5 := hZ.fr 5
  have hE := ((((((hZ.set0 (ep)).set1 (nu)).set2 (ki)).set3 (.slice a n cap)).set4 (da)).set5 (tx))
  have kZ : ∀ (W : World) (i : Nat) (u : Value), Keep (fun k => k = W1.heap.size) W (W.setCell ⟨W1.heap.size, i, none⟩ u) := fun W i u => Keep.setCell W _ u rfl
  have kAll := (((((kZ W2 0 (.int .i64 ep)).trans (kZ _ 1 (.int .i64 nu)) fun _ _ x => x).trans (kZ _ 2 (.int .i64 ki)) fun _ _ x => x).trans (kZ _ 3 (.slice a n cap)) fun _ _ x => x).trans (kZ _ 4 (.string da)) fun _ _ x => x).trans (kZ _ 5 (.string tx)) fun _ _ x => x
  replace hE := hide hE
  have BF := BB.trans (kAll.below (B := w.heap.size) BB.size (fun k hk x => by omega))
  clear kAll kZ hZ BB X0 X1 hA hA2 hs1
  go_enter Tryd.func12, Tryd.ntmps12
  go_wp2
  have e0 := hE.out.box.c0
  have e1 := hE.out.box.c1
  have e2 := hE.out.box.c2
  have e3 := hE.out.box.c3
  have e4 := hE.out.box.c4
  have e5 := hE.out.box.c5
  refine bodyPost_ret (v := .agg #[.int .i64 ep, .int .i64 nu, .int .i64 ki, .slice a n cap, .string da, .string tx]) (by simp [results, Tryd.results12, go_sem, e0, e1, e2, e3, e4, e5]) rfl ⟨rfl, BF⟩

set_option maxHeartbeats 8000000 in
set_option maxRecDepth 20000 in
theorem same_rec_any (ep nu ki : Int) (a : Option Addr) (n cap : Nat) (xs : List (Int × Int)) (da tx : ByteArray) (ep2 nu2 ki2 : Int) (a2 : Option Addr) (n2 cap2 : Nat) (ys : List (Int × Int)) (da2 tx2 : ByteArray) (w : World) (hA : Sl w a n xs) (hB : Sl w a2 n2 ys) :
    Calls Tryd.prog 22 #[.agg #[.int .i64 ep, .int .i64 nu, .int .i64 ki, .slice a n cap, .string da, .string tx], .agg #[.int .i64 ep2, .int .i64 nu2, .int .i64 ki2, .slice a2 n2 cap2, .string da2, .string tx2]] w fun e w' => e = .returned (.bool (sameB ⟨ep, nu, ki, xs, da, tx⟩ ⟨ep2, nu2, ki2, ys, da2, tx2⟩)) ∧ Below w.heap.size w w' := by
  obtain ⟨X, hX⟩ : ∃ X, Hid (X = sameB ⟨ep, nu, ki, xs, da, tx⟩ ⟨ep2, nu2, ki2, ys, da2, tx2⟩) := ⟨_, rfl⟩
  rw [← hX.out]
  have hsm := fun w (h : Sl w a n xs) (h2 : Sl w a2 n2 ys) => same_any a a2 n n2 cap cap2 xs ys w h h2
  have k1 := below_alloc w (.cells #[.int .i64 ep, .int .i64 nu, .int .i64 ki, .slice a n cap, .string da, .string tx] 24)
  have X1 := boxR w ep nu ki (.slice a n cap) da tx 24
  have hs1 : (w.alloc (.cells #[.int .i64 ep, .int .i64 nu, .int .i64 ki, .slice a n cap, .string da, .string tx] 24)).heap.size = w.heap.size + 1 := by simp
  generalize hW1 : w.alloc (.cells #[.int .i64 ep, .int .i64 nu, .int .i64 ki, .slice a n cap, .string da, .string tx] 24) = W1 at *
  have k2 := below_alloc W1 (.cells #[.int .i64 ep2, .int .i64 nu2, .int .i64 ki2, .slice a2 n2 cap2, .string da2, .string tx2] 29)
  have X2 := X1.later (k2.mono X1.lt)
  have Y2 := boxR W1 ep2 nu2 ki2 (.slice a2 n2 cap2) da2 tx2 29
  have BB := k1.trans (k2.mono k1.size)
  generalize hW2 : W1.alloc (.cells #[.int .i64 ep2, .int .i64 nu2, .int .i64 ki2, .slice a2 n2 cap2, .string da2, .string tx2] 29) = W2 at *
  have hA2 := hA.later BB
  have hB2 := hB.later BB
  have c0 := X2.c0
  have c1 := X2.c1
  have c2 := X2.c2
  have c3 := X2.c3
  have c4 := X2.c4
  have c5 := X2.c5
  have d0 := Y2.c0
  have d1 := Y2.c1
  have d2 := Y2.c2
  have d3 := Y2.c3
  have d4 := Y2.c4
  have d5 := Y2.c5
  clear hA hB k1 k2 X1 hs1
  go_enter Tryd.func22, Tryd.ntmps22
  by_cases g1 : ep = ep2
  · skip
    subst g1
    by_cases g2 : nu = nu2
    · skip
      subst g2
      by_cases g3 : ki = ki2
      · skip
        subst g3
        by_cases g4 : xs = ys
        · have gg : decide (xs = ys) = true := by simp [g4]
          rw [gg] at hsm
          replace gg := hide g4
          clear g4
          go_wp2_with fail
          refine (hsm _ hA2 hB2).mono ?_
          rintro e w3 ⟨rfl, b3⟩
          have BF := BB.trans (b3.mono BB.size)
          have Y3 := X2.later (b3.mono X2.lt)
          have Z3 := Y2.later (b3.mono Y2.lt)
          clear hsm hA2 hB2 b3 BB X2 Y2 c0 c1 c2 c3 c4 c5 d0 d1 d2 d3 d4 d5
          have c4 := Y3.c4
          have c5 := Y3.c5
          have d4 := Z3.c4
          have d5 := Z3.c5
          clear Y3 Z3
          by_cases g5 : da = da2
          · skip
            subst g5
            by_cases g6 : tx = tx2
            · skip
              subst g6
              have hb6 := beq_lists (rfl : tx = tx)
              have hb5 := beq_lists (rfl : da = da)
              obtain rfl : X = true := by
                have := hX.out
                unfold sameB at this
                simp only at this
                rw [this]
                simp [gg.out]
              clear hX
              go_wp2
              go_ret
              exact ⟨rfl, BF⟩
            · skip
              obtain rfl : X = false := by
                have := hX.out
                unfold sameB at this
                simp only at this
                rw [this]
                simp [g6]
              clear hX
              have hb5 := beq_lists (rfl : da = da)
              have hb6 := bne_lists g6
              clear g6
              go_wp2
              go_ret
              exact ⟨rfl, BF⟩
          · skip
            obtain rfl : X = false := by
              have := hX.out
              unfold sameB at this
              simp only at this
              rw [this]
              simp [g5]
            clear hX
            have hb5 := bne_lists g5
            clear g5
            go_wp2
            go_ret
            exact ⟨rfl, BF⟩
        · have gg : decide (xs = ys) = false := by simp [g4]
          rw [gg] at hsm
          clear gg
          obtain rfl : X = false := by
            have := hX.out
            unfold sameB at this
            simp only at this
            rw [this]
            simp [g4]
          clear hX g4
          go_wp2_with fail
          refine (hsm _ hA2 hB2).mono ?_
          rintro e w3 ⟨rfl, b3⟩
          have BF := BB.trans (b3.mono BB.size)
          have Y3 := X2.later (b3.mono X2.lt)
          have Z3 := Y2.later (b3.mono Y2.lt)
          clear hsm hA2 hB2 b3 BB X2 Y2 c0 c1 c2 c3 c4 c5 d0 d1 d2 d3 d4 d5
          have c4 := Y3.c4
          have c5 := Y3.c5
          have d4 := Z3.c4
          have d5 := Z3.c5
          clear Y3 Z3
          go_wp2
          go_ret
          exact ⟨rfl, BF⟩
      · skip
        obtain rfl : X = false := by
          have := hX.out
          unfold sameB at this
          simp only at this
          rw [this]
          simp [g3]
        clear hX
        go_wp2
        go_ret
        exact ⟨rfl, BB⟩
    · skip
      obtain rfl : X = false := by
        have := hX.out
        unfold sameB at this
        simp only at this
        rw [this]
        simp [g2]
      clear hX
      go_wp2
      go_ret
      exact ⟨rfl, BB⟩
  · skip
    obtain rfl : X = false := by
      have := hX.out
      unfold sameB at this
      simp only at this
      rw [this]
      simp [g1]
    clear hX
    go_wp2
    go_ret
    exact ⟨rfl, BB⟩

theorem sl_nil (w : World) (_c : Nat) : Sl w none 0 [] := ⟨rfl, by omega, by simp, fun i hi => by simp at hi⟩
set_option maxHeartbeats 4000000 in
theorem none_any (ep nu ki : Int) (a : Option Addr) (n cap : Nat) (xs : List (Int × Int)) (da tx : ByteArray) (w : World) (hA : Sl w a n xs) :
    Calls Tryd.prog 23 #[.agg #[.int .i64 ep, .int .i64 nu, .int .i64 ki, .slice a n cap, .string da, .string tx]] w fun e w' => e = .returned (.bool (sameB ⟨ep, nu, ki, xs, da, tx⟩ no)) ∧ Below w.heap.size w w' := by
  have hs := fun w (h : Sl w a n xs) => same_rec_any ep nu ki a n cap xs da tx 0 0 0 none 0 0 [] ⟨#[]⟩ ⟨#[]⟩ w h (sl_nil w 0)
  rw [show (⟨0, 0, 0, [], ⟨#[]⟩, ⟨#[]⟩⟩ : Rc) = no from rfl] at hs
  generalize sameB ⟨ep, nu, ki, xs, da, tx⟩ no = S at *
  have k1 := below_alloc w (.cells #[.int .i64 ep, .int .i64 nu, .int .i64 ki, .slice a n cap, .string da, .string tx] 24)
  have X1 := boxR w ep nu ki (.slice a n cap) da tx 24
  have hA2 := hA.later k1
  generalize hW1 : w.alloc (.cells #[.int .i64 ep, .int .i64 nu, .int .i64 ki, .slice a n cap, .string da, .string tx] 24) = W1 at *
  have c0 := X1.c0
  have c1 := X1.c1
  have c2 := X1.c2
  have c3 := X1.c3
  have c4 := X1.c4
  have c5 := X1.c5
  clear hA
  go_enter Tryd.func23, Tryd.ntmps23
  go_wp2_with fail
  refine (hs _ hA2).mono ?_
  rintro e w2 ⟨rfl, b2⟩
  have BF := k1.trans (b2.mono k1.size)
  clear hs hA2 b2 c0 c1 c2 c3 c4 c5 X1 k1 hW1
  go_wp2
  go_ret
  exact ⟨rfl, BF⟩
end Re
end Go.Proofs.YtnpbgjafahhadaaDoor
