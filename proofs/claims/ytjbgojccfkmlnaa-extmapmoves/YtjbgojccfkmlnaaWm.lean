/- Which extent goes on in which, and extents joined to as few as can be. -/
import Derived.Test.YtjbgojccfkmlnaaWl
import Derived.Laws.StructEq
namespace Go.Proofs.Ytjbgojccfkmlnaa
open Go.RowKit
namespace Wi

set_option maxRecDepth 20000 in
theorem run_eql40 (a b c d a' b' c' d' : Int) (w : World) : (binOp .eql 40 (.agg #[.int .i64 a, .int .i64 b, .int .i64 c, .int .i64 d]) (.agg #[.int .i64 a', .int .i64 b', .int .i64 c', .int .i64 d'])).run Try.prog w = .ok (.bool (decide (a = a' ∧ b = b' ∧ c = c' ∧ d = d'))) w := by
  simp [go_sem]
  by_cases h1 : a = a' <;> by_cases h2 : b = b' <;> by_cases h3 : c = c' <;> by_cases h4 : d = d' <;> simp [h1, h2, h3, h4]
set_option maxRecDepth 20000 in
theorem run_neq40 (a b c d a' b' c' d' : Int) (w : World) : (binOp .neq 40 (.agg #[.int .i64 a, .int .i64 b, .int .i64 c, .int .i64 d]) (.agg #[.int .i64 a', .int .i64 b', .int .i64 c', .int .i64 d'])).run Try.prog w = .ok (.bool (!decide (a = a' ∧ b = b' ∧ c = c' ∧ d = d'))) w := by
  simp [go_sem]
  by_cases h1 : a = a' <;> by_cases h2 : b = b' <;> by_cases h3 : c = c' <;> by_cases h4 : d = d' <;> simp [h1, h2, h3, h4]
set_option maxHeartbeats 4000000 in
set_option maxRecDepth 20000 in
theorem goes_any (xa xl xq xt ya yl yq yt : Nat) (hx : Xt.Sm ⟨xa, xl, xq, xt⟩) (hy : Xt.Sm ⟨ya, yl, yq, yt⟩) (w : World) :
    Calls Try.prog 52 #[.agg #[.int .i64 (xa : Nat), .int .i64 (xl : Nat), .int .i64 (xq : Nat), .int .i64 (xt : Nat)], .agg #[.int .i64 (ya : Nat), .int .i64 (yl : Nat), .int .i64 (yq : Nat), .int .i64 (yt : Nat)]] w
      fun e w' => e = .returned (.bool (decide (Goes ⟨xa, xl, xq, xt⟩ ⟨ya, yl, yq, yt⟩))) ∧ Below w.heap.size w w' := by
  obtain ⟨s1, s2, s3⟩ := hx
  obtain ⟨r1, r2, r3⟩ := hy
  unfold Xt.fin at s1 r1
  simp only at s1 s2 s3 r1 r2 r3
  obtain ⟨W, hW⟩ : ∃ W, W = (w.alloc (.cells #[.int .i64 (xa : Nat), .int .i64 (xl : Nat), .int .i64 (xq : Nat), .int .i64 (xt : Nat)] 40)).alloc (.cells #[.int .i64 (ya : Nat), .int .i64 (yl : Nat), .int .i64 (yq : Nat), .int .i64 (yt : Nat)] 40) := ⟨_, rfl⟩
  have X1 : XCell W w.heap.size 0 ⟨xa, xl, xq, xt⟩ := by rw [hW]; exact (new_x w ⟨xa, xl, xq, xt⟩ 40).later (below_alloc _ _)
  have X2 : XCell W (w.heap.size + 1) 0 ⟨ya, yl, yq, yt⟩ := by
    rw [hW]
    have := new_x (w.alloc (.cells #[.int .i64 (xa : Nat), .int .i64 (xl : Nat), .int .i64 (xq : Nat), .int .i64 (xt : Nat)] 40)) ⟨ya, yl, yq, yt⟩ 40
    rwa [show (w.alloc (.cells #[.int .i64 (xa : Nat), .int .i64 (xl : Nat), .int .i64 (xq : Nat), .int .i64 (xt : Nat)] 40)).heap.size = w.heap.size + 1 by simp] at this
  have HB : Hid (Below w.heap.size w W) := by
    show Below _ _ _
    rw [hW]
    exact (below_alloc w _).alloc (below_alloc w _).size _
  have HW := hide hW
  have a0 : ∀ P : Later W, P.val.cell? ⟨w.heap.size, 0, none⟩ = some (.int .i64 (xa : Nat)) := fun P => (X1.later P.below).c0
  have a1 : ∀ P : Later W, P.val.cell? ⟨w.heap.size, 1, none⟩ = some (.int .i64 (xl : Nat)) := fun P => (X1.later P.below).c1
  have a2 : ∀ P : Later W, P.val.cell? ⟨w.heap.size, 2, none⟩ = some (.int .i64 (xq : Nat)) := fun P => (X1.later P.below).c2
  have a3 : ∀ P : Later W, P.val.cell? ⟨w.heap.size, 3, none⟩ = some (.int .i64 (xt : Nat)) := fun P => (X1.later P.below).c3
  have b0 : ∀ P : Later W, P.val.cell? ⟨w.heap.size + 1, 0, none⟩ = some (.int .i64 (ya : Nat)) := fun P => (X2.later P.below).c0
  have b1 : ∀ P : Later W, P.val.cell? ⟨w.heap.size + 1, 1, none⟩ = some (.int .i64 (yl : Nat)) := fun P => (X2.later P.below).c1
  have b2 : ∀ P : Later W, P.val.cell? ⟨w.heap.size + 1, 2, none⟩ = some (.int .i64 (yq : Nat)) := fun P => (X2.later P.below).c2
  have b3 : ∀ P : Later W, P.val.cell? ⟨w.heap.size + 1, 3, none⟩ = some (.int .i64 (yt : Nat)) := fun P => (X2.later P.below).c3
  have hc1 : ∀ P : Later W, _ := fun P => end_any (xa : Nat) (xl : Nat) ⟨by omega, by omega⟩ P.val
  have hne := later_ne W
  clear X1 X2 hW
  by_cases h : ya = xa + xl
  · have hc2 : ∀ P : Later W, _ := fun P => part_any (xa : Nat) (xl : Nat) (xq : Nat) (xt : Nat) (ya : Nat) (yl : Nat) ⟨by omega, by omega⟩ ⟨by omega, by omega⟩ P.val
    have hE := fun w => run_eql40 (ya : Nat) (yl : Nat) (yq : Nat) (yt : Nat) (ya : Nat) (yl : Nat) (xq : Nat) ((xt : Nat) + (ya : Nat) - (xa : Nat)) w
    have e0 : ((ya : Int) == (xa : Int) + (xl : Int)) = true := by simp; omega
    have hD : decide (Goes ⟨xa, xl, xq, xt⟩ ⟨ya, yl, yq, yt⟩) = decide ((ya : Int) = ya ∧ (yl : Int) = yl ∧ (yq : Int) = xq ∧ (yt : Int) = (xt : Int) + (ya : Int) - (xa : Int)) := by
      apply decide_eq_decide.2
      show (ya = xa + xl ∧ yq = xq ∧ yt = xt + xl) ↔ _
      constructor
      · rintro ⟨g1, g2, g3⟩
        exact ⟨rfl, rfl, by omega, by omega⟩
      · rintro ⟨_, _, g3, g4⟩
        exact ⟨h, by omega, by omega⟩
    rw [hD]
    generalize decide ((ya : Int) = ya ∧ (yl : Int) = yl ∧ (yq : Int) = xq ∧ (yt : Int) = (xt : Int) + (ya : Int) - (xa : Int)) = D at *
    clear hD h
    go_enter Try.func52, Try.ntmps52
    go_wp2
    rw [← HW.out]
    refine wp_region_later (by kernel_rfl) (by kernel_rfl) ?_
    (repeat (first | go_big_quiet_skip | (go_big_quiet_want; go_big_quiet_op; go_big_quiet_on)))
    (go_big_quiet_want; go_big_quiet_op; apply Exists.intro; refine ⟨fun p => ?_, ?_⟩; (· exact later_of (hc1 p)); go_big_quiet_on)
    (repeat (first | go_big_quiet_skip | (go_big_quiet_want; go_big_quiet_op; go_big_quiet_on)))
    (go_big_quiet_want; go_big_quiet_op; apply Exists.intro; refine ⟨fun p => ?_, ?_⟩; (· exact later_of (hc2 p)); go_big_quiet_on)
    (repeat (first | go_big_quiet_skip | (go_big_quiet_want; go_big_quiet_op; go_big_quiet_on)))
    refine wpQuiet_nil ?_
    rintro _ ⟨P, rfl⟩
    have HB2 := hide (HB.out.trans (P.below.mono HB.out.size))
    generalize P.val = w2 at *
    clear hc1 hc2 a0 a1 a2 a3 b0 b1 b2 b3 hne
    go_wp2
    go_ret
    exact ⟨rfl, HB2.out⟩
  · have e0 : ((ya : Int) == (xa : Int) + (xl : Int)) = false := by simp; omega
    have hD : decide (Goes ⟨xa, xl, xq, xt⟩ ⟨ya, yl, yq, yt⟩) = false := decide_eq_false fun g => h g.1
    rw [hD]
    clear hD h
    go_enter Try.func52, Try.ntmps52
    go_wp2
    rw [← HW.out]
    refine wp_region_later (by kernel_rfl) (by kernel_rfl) ?_
    (repeat (first | go_big_quiet_skip | (go_big_quiet_want; go_big_quiet_op; go_big_quiet_on)))
    (go_big_quiet_want; go_big_quiet_op; apply Exists.intro; refine ⟨fun p => ?_, ?_⟩; (· exact later_of (hc1 p)); go_big_quiet_on)
    (repeat (first | go_big_quiet_skip | (go_big_quiet_want; go_big_quiet_op; go_big_quiet_on)))
    refine wpQuiet_nil ?_
    rintro _ ⟨P, rfl⟩
    have HB2 := hide (HB.out.trans (P.below.mono HB.out.size))
    generalize P.val = w2 at *
    clear hc1 a0 a1 a2 a3 b0 b1 b2 b3 hne
    go_wp2
    go_ret
    exact ⟨rfl, HB2.out⟩

end Wi
end Go.Proofs.Ytjbgojccfkmlnaa
