/- A part of the proofs about package span: what its functions answer, call by call. -/
import Derived.Test.YthbgniclplfpgaaWp
namespace Go.Proofs.Ythbgniclplfpgaa
open Go.RowKit
namespace Sp

theorem same_false {xs ys : List (Int × Int)} {k : Nat} (_h1 : k < xs.length) (_h2 : k < ys.length) (h : ¬ nth xs k = nth ys k) : decide (xs = ys) = false := by
  simp only [decide_eq_false_iff_not]
  intro e
  subst e
  exact h rfl
theorem same_true {xs ys : List (Int × Int)} (hl : xs.length = ys.length) (h : ∀ k, k < xs.length → nth xs k = nth ys k) : decide (xs = ys) = true := by
  simp only [decide_eq_true_eq]
  refine List.ext_getElem hl fun k h1 h2 => ?_
  have := h k h1
  rwa [nth_eq h1, nth_eq h2] at this

set_option maxHeartbeats 1000000 in
theorem same_any (a b : Option Addr) (n m cap cap' : Nat) (xs ys : List (Int × Int)) (w : World) (hA : Sl w a n xs) (hB : Sl w b m ys) :
    Calls Try.prog 23 #[.slice a n cap, .slice b m cap'] w fun e w' => e = .returned (.bool (decide (xs = ys))) ∧ Below w.heap.size w w' := by
  have hn := hA.most
  have hn2 := hB.most
  by_cases hnm : n = m
  · have HL1 := hide hA.len
    have HL2 := hide hB.len
    subst hnm
    go_enter Try.func23, Try.ntmps23
    go_wp2
    go_loopw [5] (fun i wr => ∃ k : Nat, k ≤ n ∧ i = .int .i64 k ∧ (∀ j, j < k → nth xs j = nth ys j) ∧ Below w.heap.size w wr) (fun i _ => n - (intOf i).toNat)
    case atStart => exact ⟨0, Nat.zero_le _, rfl, by intro j hj; omega, Below.refl _ _⟩
    case round =>
      obtain ⟨k, hk, rfl, hok, hb⟩ := hrel
      by_cases hlt : k < n
      · obtain ⟨ba, offa, rfl, hbla, c0, c1⟩ := (hA.later hb).cells k (by have := HL1.out; omega)
        obtain ⟨bb, offb, rfl, hblb, d0, d1⟩ := (hB.later hb).cells k (by have := HL2.out; omega)
        have C0 := lcell hbla c0
        have C1 := lcell hbla c1
        have D0 := lcell hblb d0
        have D1 := lcell hblb d1
        have hne := later_ne wr
        have hgt : Try.prog.eqGuardType Try.prog.depth 27 = false := by kernel_rfl
        by_cases he : nth xs k = nth ys k
        · have Hok := hide (ext_lt hok he)
          rw [← he] at D0 D1
          clear hA hB hok he c0 c1 d0 d1
          generalize nth xs k = x at C0 C1 D0 D1
          go_wp2
          refine wp_region_later (by kernel_rfl) (by kernel_rfl) ?_
          (repeat (first | go_big_quiet_skip | (go_big_quiet_want; go_big_quiet_op; go_big_quiet_on)))
          refine wpQuiet_nil ?_
          rintro _ ⟨p, rfl⟩
          go_wp2
          go_roundw
          case rel => exact ⟨k + 1, by omega, by go_num, Hok.out, hb.trans (p.below.mono hb.size)⟩
          case measure => simp [intOf]; omega
        · have Hf := hide (same_false (by have := HL1.out; omega) (by have := HL2.out; omega) he)
          clear hA hB hok c0 c1 d0 d1
          generalize nth xs k = x at *
          generalize nth ys k = y at *
          by_cases h1 : x.1 = y.1
          · have h2 : ¬ x.2 = y.2 := fun h2 => he (Prod.ext h1 h2)
            clear he
            go_wp2
            refine wp_region_later (by kernel_rfl) (by kernel_rfl) ?_
            (repeat (first | go_big_quiet_skip | (go_big_quiet_want; go_big_quiet_op; go_big_quiet_on)))
            refine wpQuiet_nil ?_
            rintro _ ⟨p, rfl⟩
            go_wp2
            go_ret
            exact ⟨ret_bool Hf.out.symm, hb.trans (p.below.mono hb.size)⟩
          · clear he
            go_wp2
            refine wp_region_later (by kernel_rfl) (by kernel_rfl) ?_
            (repeat (first | go_big_quiet_skip | (go_big_quiet_want; go_big_quiet_op; go_big_quiet_on)))
            refine wpQuiet_nil ?_
            rintro _ ⟨p, rfl⟩
            go_wp2
            go_ret
            exact ⟨ret_bool Hf.out.symm, hb.trans (p.below.mono hb.size)⟩
      · have Ht := hide (same_true (xs := xs) (ys := ys) (by rw [← HL1.out, ← HL2.out]) fun j hj => hok j (by have := HL1.out; omega))
        clear hA hB hok
        go_wp2
        go_ret
        exact ⟨ret_bool Ht.out.symm, hb⟩
  · have Hf : Hid (decide (xs = ys) = false) := by
      show decide (xs = ys) = false
      simp only [decide_eq_false_iff_not]
      intro e
      apply hnm
      rw [hA.len, hB.len, e]
    have hd : ((n : Int) != (m : Int)) = true := by simp; omega
    clear hA hB
    go_enter Try.func23, Try.ntmps23
    go_wp2
    go_ret
    exact ⟨ret_bool Hf.out.symm, Below.refl _ _⟩

end Sp
end Go.Proofs.Ythbgniclplfpgaa
