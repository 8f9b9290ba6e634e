/- A part of the proofs about package span: what its functions answer, call by call. -/
import Derived.Test.YthbgniclplfpgaaLk
namespace Go.Proofs.Ythbgniclplfpgaa
open Go.RowKit
namespace Sp

theorem hasB_set {xs : List (Int × Int)} {i : Int} (h : setB xs = true) : hasB xs i = wi xs i := by simp [hasB, h]

set_option maxHeartbeats 4000000 in
theorem spanChecks_any (a : Option Addr) (n cap : Nat) (xs : List (Int × Int)) (x : Int) (w : World) (h : Sl w a n xs) (hx : x ≤ 9223372036854775807) :
    Calls Try.prog 3 #[.slice a n cap, .int .i64 x] w fun e w' => e = .returned (.bool true) ∧ Below w.heap.size w w' := by
  have hn := h.most
  have haw := awake_any
  by_cases h40 : 40 < n
  · go_enter Try.func3, Try.ntmps3
    go_wp2_with fail
    refine (haw _).mono ?_
    rintro e w1 ⟨rfl, hb1⟩
    go_wp2
    go_ret
    exact ⟨rfl, hb1⟩
  · go_enter Try.func3, Try.ntmps3
    go_wp2
    go_loopw [5] (fun i wr => ∃ k : Nat, k ≤ n ∧ i = .int .i64 k ∧ Below w.heap.size w wr) (fun i _ => n - (intOf i).toNat)
    case atStart => exact ⟨0, Nat.zero_le _, rfl, Below.refl _ _⟩
    case round =>
      obtain ⟨k, hk, rfl, hb⟩ := hrel
      by_cases hlt : k < n
      · have HK := hide (show k < xs.length by have := h.len; omega)
        obtain ⟨b, off, rfl, hbl, c0, c1⟩ := (h.later hb).cells k HK.out
        have hfit := h.fit _ (nth_mem HK.out)
        have C0 := lcell hbl c0
        have C1 := lcell hbl c1
        have hne := later_ne wr
        have hr2 : ∀ p : Later wr, _ := fun p => rmay_b (nth xs k) p.val hfit
        cases hm : mayB (nth xs k) with
        | true =>
          have hr1 : ∀ p : Later wr, _ := fun p => may_ok (nth xs k) p.val hm
          rw [hm] at hr2
          clear h c0 c1 hfit hm haw
          generalize nth xs k = y at *
          go_wp2
          refine wp_region_later (by kernel_rfl) (by kernel_rfl) ?_
          (repeat (first | go_big_quiet_skip | (go_big_quiet_want; go_big_quiet_op; go_big_quiet_on)))
          (go_big_quiet_want; go_big_quiet_op; apply Exists.intro; refine ⟨fun p => ?_, ?_⟩; (· exact later_of (hr1 p)); go_big_quiet_on)
          (repeat (first | go_big_quiet_skip | (go_big_quiet_want; go_big_quiet_op; go_big_quiet_on)))
          (go_big_quiet_want; go_big_quiet_op; apply Exists.intro; refine ⟨fun p => ?_, ?_⟩; (· exact later_of (hr2 p)); go_big_quiet_on)
          (repeat (first | go_big_quiet_skip | (go_big_quiet_want; go_big_quiet_op; go_big_quiet_on)))
          refine wpQuiet_nil ?_
          rintro _ ⟨p, rfl⟩
          go_wp2
          go_roundw
          case rel => exact ⟨k + 1, by omega, by go_num, hb.trans (p.below.mono hb.size)⟩
          case measure => simp [intOf]; omega
        | false =>
          have hr1 : ∀ p : Later wr, _ := fun p => may_no (nth xs k) p.val hfit hm
          rw [hm] at hr2
          clear h c0 c1 hfit hm haw
          generalize nth xs k = y at *
          go_wp2
          refine wp_region_later (by kernel_rfl) (by kernel_rfl) ?_
          (repeat (first | go_big_quiet_skip | (go_big_quiet_want; go_big_quiet_op; go_big_quiet_on)))
          (go_big_quiet_want; go_big_quiet_op; apply Exists.intro; refine ⟨fun p => ?_, ?_⟩; (· exact later_of (hr1 p)); go_big_quiet_on)
          (repeat (first | go_big_quiet_skip | (go_big_quiet_want; go_big_quiet_op; go_big_quiet_on)))
          (go_big_quiet_want; go_big_quiet_op; apply Exists.intro; refine ⟨fun p => ?_, ?_⟩; (· exact later_of (hr2 p)); go_big_quiet_on)
          (repeat (first | go_big_quiet_skip | (go_big_quiet_want; go_big_quiet_op; go_big_quiet_on)))
          refine wpQuiet_nil ?_
          rintro _ ⟨p, rfl⟩
          go_wp2
          go_roundw
          case rel => exact ⟨k + 1, by omega, by go_num, hb.trans (p.below.mono hb.size)⟩
          case measure => simp [intOf]; omega
      · have hrc := fun W hW => rcheck_any a n cap xs W hW
        have hto := fun W hW => total_any a n cap xs W hW
        have hha := fun W hW => has_any a n cap xs x W hW
        cases hs : setB xs with
        | false =>
          have hck := fun W hW => check_no a n cap xs W hW hs
          rw [hs] at hrc
          rw [totalB_no hs] at hto
          rw [hasB_no hs] at hha
          clear hs
          go_wp2_with fail
          refine (hrc _ (h.later hb)).mono ?_
          rintro e w1 ⟨rfl, hb1⟩
          have B1 := hb.trans (hb1.mono hb.size)
          go_wp2
          go_loopw [7, 8] (fun t i wr => t = .int .i64 0 ∧ i = .int .i64 0 ∧ wr = w1) (fun _ _ _ => 0)
          case atStart => exact ⟨rfl, rfl, rfl⟩
          case round =>
            obtain ⟨rfl, rfl, rfl⟩ := hrel
            by_cases h0 : 0 < n
            all_goals
              go_wp2_with fail
              refine (hck _ (h.later B1)).mono ?_
              rintro e w2 ⟨rfl, hb2⟩
              have B2 := B1.trans (hb2.mono B1.size)
              go_wp2_with fail
              refine (hto _ (h.later B2)).mono ?_
              rintro e w3 ⟨rfl, hb3⟩
              have B3 := B2.trans (hb3.mono B2.size)
              go_wp2_with fail
              refine (hha _ (h.later B3)).mono ?_
              rintro e w4 ⟨rfl, hb4⟩
              have B4 := B3.trans (hb4.mono B3.size)
              go_wp2_with fail
              refine (haw _).mono ?_
              rintro e w5 ⟨rfl, hb5⟩
              go_wp2
              go_ret
              exact ⟨rfl, B4.trans (hb5.mono B4.size)⟩
        | true =>
          have hck := fun W hW => check_ok a n cap xs W hW hs
          have hwi := fun W hW => within_any a n cap xs x W hW (allB_setB hs) hx
          rw [hs] at hrc
          rw [totalB_ok hs] at hto
          rw [hasB_set hs] at hha
          go_wp2_with fail
          refine (hrc _ (h.later hb)).mono ?_
          rintro e w1 ⟨rfl, hb1⟩
          have B1 := hb.trans (hb1.mono hb.size)
          go_wp2
          go_loopw [7, 8] (fun t i wr => ∃ k : Nat, k ≤ n ∧ t = .int .i64 (sumTo xs k) ∧ i = .int .i64 k ∧ wr = w1) (fun _ i _ => n - (intOf i).toNat)
          case atStart => exact ⟨0, Nat.zero_le _, rfl, rfl, rfl⟩
          case round =>
            obtain ⟨k, hk, rfl, rfl, rfl⟩ := hrel
            by_cases hlt : k < n
            · have HK := hide (show k < xs.length by have := h.len; omega)
              obtain ⟨b, off, rfl, hbl, c0, c1⟩ := (h.later B1).cells k HK.out
              have hsb := sumTo_bd hs k (by have := HK.out; omega)
              have hm := mayB_iff.1 (okAt_may (setB_at hs k HK.out))
              have HS : Hid (sumTo xs (k + 1) = sumTo xs k + (nth xs k).2) := rfl
              clear h hrc hto hha hck hwi haw hs
              generalize nth xs k = y at *
              go_wp2
              go_roundw
              case rel => exact ⟨k + 1, by omega, by rw [HS.out], by go_num, trivial⟩
              case measure => simp [intOf]; omega
            · have HT : Hid (total xs = sumTo xs k) := by
                show sumTo xs xs.length = sumTo xs k
                rw [show xs.length = k by have := h.len; omega]
              rw [HT.out] at hto
              clear hs
              go_wp2_with fail
              refine (hck _ (h.later B1)).mono ?_
              rintro e w2 ⟨rfl, hb2⟩
              have B2 := B1.trans (hb2.mono B1.size)
              go_wp2_with fail
              refine (hto _ (h.later B2)).mono ?_
              rintro e w3 ⟨rfl, hb3⟩
              have B3 := B2.trans (hb3.mono B2.size)
              go_wp2_with fail
              refine (hha _ (h.later B3)).mono ?_
              rintro e w4 ⟨rfl, hb4⟩
              have B4 := B3.trans (hb4.mono B3.size)
              go_wp2_with fail
              refine (hwi _ (h.later B4)).mono ?_
              rintro e w5 ⟨rfl, hb5⟩
              have B5 := B4.trans (hb5.mono B4.size)
              generalize wi xs x = q at *
              go_wp2_with fail
              refine (haw _).mono ?_
              rintro e w6 ⟨rfl, hb6⟩
              go_wp2
              go_ret
              exact ⟨rfl, B5.trans (hb6.mono B5.size)⟩

theorem spanChecks_walk (a : Option Addr) (n cap : Nat) (xs : List (Int × Int)) (x : Int) (w : World) (h : Sl w a n xs) (_hc : Cap a n cap) (hx : -9223372036854775808 ≤ x ∧ x ≤ 9223372036854775807) :
    Calls Try.prog 3 #[.slice a n cap, .int .i64 x] w fun e w' => e = .returned (.bool true) ∧ Below w.heap.size w w' := spanChecks_any a n cap xs x w h hx.2

end Sp
end Go.Proofs.Ythbgniclplfpgaa
