/- The law RingAsks, of positions that may not be asked. -/
import Derived.Test.YtbgadcofjhgmiaaLd
namespace Go.Proofs.Ytbgadcofjhgmiaa
open Go.RowKit
namespace Sp

set_option maxRecDepth 100000 in
set_option maxHeartbeats 32000000 in
theorem asks_B0 (s h t pos n : Int) (W : World) (_hs : I64 s) (hh : I64 h) (ht : I64 t) (hp : I64 pos) (hn : I64 n) (hm : mayR s h t = true) (hA : ¬ (0 ≤ pos ∧ pos < 1099511627776 ∧ 0 ≤ n ∧ n ≤ s)) : Calls Try.prog 3 #[.agg #[.int .i64 s, .int .i64 h, .int .i64 t], .int .i64 pos, .int .i64 n] W fun e w' => e = .returned (.bool true) ∧ Below W.heap.size W w' := by
  have HX := hide (Rc.new W s h t)
  have HB := hide (below_alloc W (.cells #[.int .i64 s, .int .i64 h, .int .i64 t] 23))
  obtain ⟨c0, c1, c2, _⟩ := HX.out
  obtain ⟨m1, m2, m3, m4, m5, m6⟩ := mayR_get hm
  have hm1 : mayR s 0 0 = true := decide_eq_true (by omega)
  have hc := refmay_any s h t hh ht (W.alloc (.cells #[.int .i64 s, .int .i64 h, .int .i64 t] 23))
  rw [hm] at hc
  have HM1 : Hid (∀ w' : World, _) := fun w' => refmay_any s 0 0 ⟨by omega, by omega⟩ ⟨by omega, by omega⟩ w'
  rw [hm1] at HM1
  have HN : Hid (∀ w' : World, _) := fun w' => new_any s w'
  rw [hm1] at HN
  rw [if_pos rfl] at HN
  have hno : pos < 0 ∨ 1099511627776 ≤ pos ∨ n < 0 ∨ s < n := by omega
  have HAT : Hid (∀ w' : World, _) := fun w' => at_no s h t pos n hh ht (.inr hno) w'
  have HNO := hide hno
  clear hno hA
  have HC : Hid (∀ w' : World, _) := fun w' => check_any s h t hh ht w'
  rw [hm, show erB true = 0 from rfl] at HC
  have HU : Hid (∀ w' : World, _) := fun w' => used_any s h t hh ht w'
  rw [show usedR s h t = h - t by unfold usedR; rw [hm]; rfl] at HU
  have HF : Hid (∀ w' : World, _) := fun w' => free_any s h t hh ht w'
  rw [show freeR s h t = s - h + t by unfold freeR; rw [hm, if_pos rfl]; omega] at HF
  have HH : Hid (∀ w' : World, _) := fun w' => holds_any s h t pos n hh ht hp hn w'
  have HHB : Hid (holdsB s h t pos n = decide (0 ≤ n ∧ t ≤ pos ∧ pos ≤ h ∧ n ≤ h - pos)) := by show _ = _; unfold holdsB; rw [hm]; rfl
  have hw1 : IntKind.i64.wrap (h - t) = h - t := by rw [IntKind.wrap_i64]; omega
  have hw2 : IntKind.i64.wrap (s - h) = s - h := by rw [IntKind.wrap_i64]; omega
  have hw3 : IntKind.i64.wrap (s - h + t) = s - h + t := by rw [IntKind.wrap_i64]; omega
  have HM := hide (mayR_get hm)
  have HP := hide hp
  have HNR := hide hn
  clear hm hm1 hp hn hh ht m1 m2 m3 m4 m5 m6
  go_enter Try.func3, Try.ntmps3
  go_wp2_with fail
  refine hc.mono ?_
  rintro e w1 ⟨rfl, hb1⟩
  have HB1 := hide (HB.out.trans (hb1.mono HB.out.size))
  have HX1 := hide (HX.out.later hb1)
  clear c0 c1 c2 hc hb1
  obtain ⟨c0, c1, c2, _⟩ := HX1.out
  have hk := HN.out w1
  go_wp2_with fail
  refine hk.mono ?_
  rintro e w2 ⟨rfl, hb2⟩
  have HB2 := hide (HB1.out.trans (hb2.mono HB1.out.size))
  have HX2 := hide (HX1.out.later hb2)
  clear c0 c1 c2 hk hb2
  obtain ⟨c0, c1, c2, _⟩ := HX2.out
  have HX2' := hide (HX2.out.later (below_alloc w2 (.cells #[.int .i64 s, .int .i64 0, .int .i64 0] 23)))
  have HY2 := hide (Rc.new w2 s 0 0)
  have HB2' := hide (HB2.out.alloc HB2.out.size (.cells #[.int .i64 s, .int .i64 0, .int .i64 0] 23))
  have hk := HM1.out (w2.alloc (.cells #[.int .i64 s, .int .i64 0, .int .i64 0] 23))
  go_wp2_with fail
  refine hk.mono ?_
  rintro e w3 ⟨rfl, hb3⟩
  have HB3 := hide (HB2'.out.trans (hb3.mono HB2'.out.size))
  have HX3 := hide (HX2'.out.later hb3)
  clear c0 c1 c2
  obtain ⟨y0, y1, y2, _⟩ := HY2.out.later hb3
  obtain ⟨c0, c1, c2, _⟩ := HX3.out
  have hne0 := fun w' => ne23 s 0 0 w'
  have hk2 := HAT.out w3
  clear hk hb3
  go_wp2_with fail
  refine hk2.mono ?_
  rintro e w4 ⟨rfl, hb4⟩
  have HB4 := hide (HB3.out.trans (hb4.mono HB3.out.size))
  have HX4 := hide (HX3.out.later hb4)
  clear c0 c1 c2 y0 y1 y2 hk2 hne0
  have CC : ∀ P : Later w4, _ := fun P => HC.out P.val
  have CU : ∀ P : Later w4, _ := fun P => HU.out P.val
  have CF : ∀ P : Later w4, _ := fun P => HF.out P.val
  have X0 : ∀ P : Later w4, _ := fun P => (HX4.out.later P.below).c0
  have X1 : ∀ P : Later w4, _ := fun P => (HX4.out.later P.below).c1
  have X2 : ∀ P : Later w4, _ := fun P => (HX4.out.later P.below).c2
  have hne := later_ne w4
  go_wp2
  refine wp_region_later (by kernel_rfl) (by kernel_rfl) ?_
  (repeat (first | go_big_quiet_skip | (go_big_quiet_want; go_big_quiet_op; go_big_quiet_on)))
  (go_big_quiet_want; go_big_quiet_op; apply Exists.intro; refine ⟨fun p => ?_, ?_⟩; (· exact later_of (CC p)); go_big_quiet_on)
  (repeat (first | go_big_quiet_skip | (go_big_quiet_want; go_big_quiet_op; go_big_quiet_on)))
  (go_big_quiet_want; go_big_quiet_op; apply Exists.intro; refine ⟨fun p => ?_, ?_⟩; (· exact later_of (CU p)); go_big_quiet_on)
  (repeat (first | go_big_quiet_skip | (go_big_quiet_want; go_big_quiet_op; go_big_quiet_on)))
  (go_big_quiet_want; go_big_quiet_op; apply Exists.intro; refine ⟨fun p => ?_, ?_⟩; (· exact later_of (CF p)); go_big_quiet_on)
  (repeat (first | go_big_quiet_skip | (go_big_quiet_want; go_big_quiet_op; go_big_quiet_on)))
  refine wpQuiet_nil ?_
  rintro _ ⟨p_1, rfl⟩
  have HB5 := hide (HB4.out.trans (p_1.below.mono HB4.out.size))
  have HX5 := hide (HX4.out.later p_1.below)
  clear CC CU CF X0 X1 X2 hne hb4
  generalize p_1.val = w5 at *
  obtain ⟨c0, c1, c2, _⟩ := HX5.out
  by_cases g0 : 300 < s
  case pos =>
    have ha := awake_any w5
    go_wp2_with fail
    refine ha.mono ?_
    rintro e w9 ⟨rfl, hb9⟩
    have HB9 := hide (HB5.out.trans (hb9.mono HB5.out.size))
    clear ha hb9
    go_wp2
    go_ret
    exact ⟨rfl, HB9.out⟩
  case neg =>
  have g1 : s ≤ 300 := by omega
  have hw4 : 0 ≤ n → t ≤ pos → pos ≤ h → IntKind.i64.wrap (h - pos) = h - pos := fun _ _ _ => by have := HM.out; rw [IntKind.wrap_i64]; omega
  by_cases q0 : n < 0
  case pos =>
    have hk := HH.out w5
    rw [HHB.out, decide_eq_false (by omega)] at hk
    go_wp2_with fail
    refine hk.mono ?_
    rintro e w6 ⟨rfl, hb6⟩
    have HB6 := hide (HB5.out.trans (hb6.mono HB5.out.size))
    have HX6 := hide (HX5.out.later hb6)
    clear hk hb6 c0 c1 c2
    obtain ⟨c0, c1, c2, _⟩ := HX6.out
    by_cases r0 : pos < 0
    case pos =>
      have ha := awake_any w6
      go_wp2_with fail
      refine ha.mono ?_
      rintro e w9 ⟨rfl, hb9⟩
      have HB9 := hide (HB6.out.trans (hb9.mono HB6.out.size))
      clear ha hb9
      go_wp2
      go_ret
      exact ⟨rfl, HB9.out⟩
    case neg =>
      have ha := awake_any w6
      go_wp2_with fail
      refine ha.mono ?_
      rintro e w9 ⟨rfl, hb9⟩
      have HB9 := hide (HB6.out.trans (hb9.mono HB6.out.size))
      clear ha hb9
      go_wp2
      go_ret
      exact ⟨rfl, HB9.out⟩
  case neg =>
    by_cases q1 : pos < t
    case pos =>
      have hk := HH.out w5
      rw [HHB.out, decide_eq_false (by omega)] at hk
      go_wp2_with fail
      refine hk.mono ?_
      rintro e w6 ⟨rfl, hb6⟩
      have HB6 := hide (HB5.out.trans (hb6.mono HB5.out.size))
      have HX6 := hide (HX5.out.later hb6)
      clear hk hb6 c0 c1 c2
      obtain ⟨c0, c1, c2, _⟩ := HX6.out
      by_cases r0 : pos < 0
      case pos =>
        have ha := awake_any w6
        go_wp2_with fail
        refine ha.mono ?_
        rintro e w9 ⟨rfl, hb9⟩
        have HB9 := hide (HB6.out.trans (hb9.mono HB6.out.size))
        clear ha hb9
        go_wp2
        go_ret
        exact ⟨rfl, HB9.out⟩
      case neg =>
        by_cases r1 : s < n
        case pos =>
          have ha := awake_any w6
          go_wp2_with fail
          refine ha.mono ?_
          rintro e w9 ⟨rfl, hb9⟩
          have HB9 := hide (HB6.out.trans (hb9.mono HB6.out.size))
          clear ha hb9
          go_wp2
          go_ret
          exact ⟨rfl, HB9.out⟩
        case neg =>
          by_cases r2 : 1099511627776 ≤ pos
          case pos =>
            have ha := awake_any w6
            go_wp2_with fail
            refine ha.mono ?_
            rintro e w9 ⟨rfl, hb9⟩
            have HB9 := hide (HB6.out.trans (hb9.mono HB6.out.size))
            clear ha hb9
            go_wp2
            go_ret
            exact ⟨rfl, HB9.out⟩
          case neg =>
            exact absurd HNO.out (by omega)
    case neg =>
      by_cases q2 : h < pos
      case pos =>
        have hk := HH.out w5
        rw [HHB.out, decide_eq_false (by omega)] at hk
        go_wp2_with fail
        refine hk.mono ?_
        rintro e w6 ⟨rfl, hb6⟩
        have HB6 := hide (HB5.out.trans (hb6.mono HB5.out.size))
        have HX6 := hide (HX5.out.later hb6)
        clear hk hb6 c0 c1 c2
        obtain ⟨c0, c1, c2, _⟩ := HX6.out
        by_cases r0 : pos < 0
        case pos =>
          have ha := awake_any w6
          go_wp2_with fail
          refine ha.mono ?_
          rintro e w9 ⟨rfl, hb9⟩
          have HB9 := hide (HB6.out.trans (hb9.mono HB6.out.size))
          clear ha hb9
          go_wp2
          go_ret
          exact ⟨rfl, HB9.out⟩
        case neg =>
          by_cases r1 : s < n
          case pos =>
            have ha := awake_any w6
            go_wp2_with fail
            refine ha.mono ?_
            rintro e w9 ⟨rfl, hb9⟩
            have HB9 := hide (HB6.out.trans (hb9.mono HB6.out.size))
            clear ha hb9
            go_wp2
            go_ret
            exact ⟨rfl, HB9.out⟩
          case neg =>
            by_cases r2 : 1099511627776 ≤ pos
            case pos =>
              have ha := awake_any w6
              go_wp2_with fail
              refine ha.mono ?_
              rintro e w9 ⟨rfl, hb9⟩
              have HB9 := hide (HB6.out.trans (hb9.mono HB6.out.size))
              clear ha hb9
              go_wp2
              go_ret
              exact ⟨rfl, HB9.out⟩
            case neg =>
              exact absurd HNO.out (by omega)
      case neg =>
        by_cases q3 : h - pos < n
        case pos =>
          have hk := HH.out w5
          rw [HHB.out, decide_eq_false (by omega)] at hk
          go_wp2_with fail
          refine hk.mono ?_
          rintro e w6 ⟨rfl, hb6⟩
          have HB6 := hide (HB5.out.trans (hb6.mono HB5.out.size))
          have HX6 := hide (HX5.out.later hb6)
          clear hk hb6 c0 c1 c2
          obtain ⟨c0, c1, c2, _⟩ := HX6.out
          by_cases r0 : pos < 0
          case pos =>
            have ha := awake_any w6
            go_wp2_with fail
            refine ha.mono ?_
            rintro e w9 ⟨rfl, hb9⟩
            have HB9 := hide (HB6.out.trans (hb9.mono HB6.out.size))
            clear ha hb9
            go_wp2
            go_ret
            exact ⟨rfl, HB9.out⟩
          case neg =>
            by_cases r1 : s < n
            case pos =>
              have ha := awake_any w6
              go_wp2_with fail
              refine ha.mono ?_
              rintro e w9 ⟨rfl, hb9⟩
              have HB9 := hide (HB6.out.trans (hb9.mono HB6.out.size))
              clear ha hb9
              go_wp2
              go_ret
              exact ⟨rfl, HB9.out⟩
            case neg =>
              by_cases r2 : 1099511627776 ≤ pos
              case pos =>
                have ha := awake_any w6
                go_wp2_with fail
                refine ha.mono ?_
                rintro e w9 ⟨rfl, hb9⟩
                have HB9 := hide (HB6.out.trans (hb9.mono HB6.out.size))
                clear ha hb9
                go_wp2
                go_ret
                exact ⟨rfl, HB9.out⟩
              case neg =>
                exact absurd HNO.out (by omega)
        case neg =>
          have hk := HH.out w5
          rw [HHB.out, decide_eq_true (by omega)] at hk
          go_wp2_with fail
          refine hk.mono ?_
          rintro e w6 ⟨rfl, hb6⟩
          have HB6 := hide (HB5.out.trans (hb6.mono HB5.out.size))
          have HX6 := hide (HX5.out.later hb6)
          clear hk hb6 c0 c1 c2
          obtain ⟨c0, c1, c2, _⟩ := HX6.out
          by_cases r0 : pos < 0
          case pos =>
            have ha := awake_any w6
            go_wp2_with fail
            refine ha.mono ?_
            rintro e w9 ⟨rfl, hb9⟩
            have HB9 := hide (HB6.out.trans (hb9.mono HB6.out.size))
            clear ha hb9
            go_wp2
            go_ret
            exact ⟨rfl, HB9.out⟩
          case neg =>
            by_cases r1 : s < n
            case pos =>
              have ha := awake_any w6
              go_wp2_with fail
              refine ha.mono ?_
              rintro e w9 ⟨rfl, hb9⟩
              have HB9 := hide (HB6.out.trans (hb9.mono HB6.out.size))
              clear ha hb9
              go_wp2
              go_ret
              exact ⟨rfl, HB9.out⟩
            case neg =>
              by_cases r2 : 1099511627776 ≤ pos
              case pos =>
                have ha := awake_any w6
                go_wp2_with fail
                refine ha.mono ?_
                rintro e w9 ⟨rfl, hb9⟩
                have HB9 := hide (HB6.out.trans (hb9.mono HB6.out.size))
                clear ha hb9
                go_wp2
                go_ret
                exact ⟨rfl, HB9.out⟩
              case neg =>
                exact absurd HNO.out (by omega)

end Sp
end Go.Proofs.Ytbgadcofjhgmiaa
