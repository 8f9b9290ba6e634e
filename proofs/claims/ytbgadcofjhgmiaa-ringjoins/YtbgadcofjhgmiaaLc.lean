/- The law RingJoins, walked. -/
import Derived.Test.YtbgadcofjhgmiaaLa
namespace Go.Proofs.Ytbgadcofjhgmiaa
open Go.RowKit
namespace Sp

theorem push_fail (s h t n : Nat) (hm : mayR s h t = true) (hno : ¬ (h + n < 1099511627776 ∧ n ≤ s - (h - t))) (w : World) :
    Calls Try.prog 18 #[.agg #[.int .i64 (s : Nat), .int .i64 (h : Nat), .int .i64 (t : Nat)], .int .i64 (n : Nat)] w fun e w' => ∃ er, e = .returned (.tuple #[.agg #[.int .i64 (s : Nat), .int .i64 (h : Nat), .int .i64 (t : Nat)], .slice none 0 0, .int .i64 er]) ∧ ¬ er = 0 ∧ Below w.heap.size w w' := by
  obtain ⟨m1, m2, m3, m4, m5, m6⟩ := mayR_get hm
  by_cases h1 : h + n < 1099511627776
  · exact (push_full s h t n ⟨by omega, by omega⟩ ⟨by omega, by omega⟩ hm (by omega) (by omega) (by omega) w).mono fun e w' ⟨he, hb⟩ => ⟨32, he, by decide, hb⟩
  · exact (push_no s h t n ⟨by omega, by omega⟩ ⟨by omega, by omega⟩ (.inr (.inr (by omega))) w).mono fun e w' ⟨he, hb⟩ => ⟨1, he, by decide, hb⟩
theorem push_ex (s h t n : Nat) (hm : mayR s h t = true) (w : World) :
    Calls Try.prog 18 #[.agg #[.int .i64 (s : Nat), .int .i64 (h : Nat), .int .i64 (t : Nat)], .int .i64 (n : Nat)] w fun e w' => ∃ hh v er, e = .returned (.tuple #[.agg #[.int .i64 (s : Nat), .int .i64 hh, .int .i64 (t : Nat)], v, .int .i64 er]) ∧ Below w.heap.size w w' := by
  obtain ⟨m1, m2, m3, m4, m5, m6⟩ := mayR_get hm
  by_cases h1 : h + n < 1099511627776 ∧ n ≤ s - (h - t)
  · exact (push_ok s h t n hm h1.1 h1.2 w).mono fun e w' ⟨v, he, _, _, hb⟩ => ⟨_, v, 0, he, hb⟩
  · exact (push_fail s h t n hm h1 w).mono fun e w' ⟨er, he, _, hb⟩ => ⟨_, _, er, he, hb⟩

set_option maxRecDepth 100000 in
set_option maxHeartbeats 16000000 in
theorem ringJoins_walk (s h t x y : Int) (W : World) (hs : I64 s) (hh : I64 h) (ht : I64 t) (hx : I64 x) (hy : I64 y) : Calls Try.prog 6 #[.agg #[.int .i64 s, .int .i64 h, .int .i64 t], .agg #[.int .i64 x, .int .i64 y]] W fun e w' => e = .returned (.bool true) ∧ Below W.heap.size W w' := by
  have hb0 := below_alloc W (.cells #[.int .i64 s, .int .i64 h, .int .i64 t] 23)
  have HB := hide (hb0.alloc hb0.size (.cells #[.int .i64 x, .int .i64 y] 45))
  have hc := refmay_any s h t hh ht ((W.alloc (.cells #[.int .i64 s, .int .i64 h, .int .i64 t] 23)).alloc (.cells #[.int .i64 x, .int .i64 y] 45))
  have hs1 : (W.alloc (.cells #[.int .i64 s, .int .i64 h, .int .i64 t] 23)).heap.size = W.heap.size + 1 := by simp
  have HX : Hid (∀ w', Below ((W.alloc (.cells #[.int .i64 s, .int .i64 h, .int .i64 t] 23)).alloc (.cells #[.int .i64 x, .int .i64 y] 45)).heap.size ((W.alloc (.cells #[.int .i64 s, .int .i64 h, .int .i64 t] 23)).alloc (.cells #[.int .i64 x, .int .i64 y] 45)) w' → Rc w' W.heap.size s h t ∧ w'.cell? ⟨W.heap.size + 1, 0, none⟩ = some (.int .i64 x) ∧ w'.cell? ⟨W.heap.size + 1, 1, none⟩ = some (.int .i64 y)) := fun w' hb => by
    have r1 := (Rc.new W s h t).later (below_alloc _ (.cells #[.int .i64 x, .int .i64 y] 45))
    have hh2 := heap_alloc_new (W.alloc (.cells #[.int .i64 s, .int .i64 h, .int .i64 t] 23)) (.cells #[.int .i64 x, .int .i64 y] 45)
    rw [hs1] at hh2
    have hl := lt_of_block hh2
    refine ⟨r1.later hb, ?_, ?_⟩ <;> (rw [hb.cell hl, cell_of_row _ _ _ _ _ _ hh2]; rfl)
  clear hb0 hs1
  obtain ⟨⟨c0, c1, c2, _⟩, y0, y1⟩ := HX.out _ (Below.refl _ _)
  cases hm : mayR s h t with
  | false =>
    rw [hm] at hc
    clear hm
    go_enter Try.func6, Try.ntmps6
    go_wp2_with fail
    refine hc.mono ?_
    rintro e w1 ⟨rfl, hb1⟩
    have HB1 := hide (HB.out.trans (hb1.mono HB.out.size))
    clear c0 c1 c2 y0 y1
    have HX1 := hide (HX.out _ hb1)
    obtain ⟨⟨c0, c1, c2, _⟩, y0, y1⟩ := HX1.out
    clear hc hb1
    clear HX1
    have ha := awake_any w1
    go_wp2_with fail
    refine ha.mono ?_
    rintro e w9 ⟨rfl, hb9⟩
    have HB9 := hide (HB1.out.trans (hb9.mono HB1.out.size))
    clear ha hb9
    go_wp2
    go_ret
    exact ⟨rfl, HB9.out⟩
  | true =>
    rw [hm] at hc
    have hm0 := hm
    obtain ⟨m1, m2, m3, m4, m5, m6⟩ := mayR_get hm
    clear hm
    by_cases g1 : x < 0
    · go_enter Try.func6, Try.ntmps6
      go_wp2_with fail
      refine hc.mono ?_
      rintro e w1 ⟨rfl, hb1⟩
      have HB1 := hide (HB.out.trans (hb1.mono HB.out.size))
      clear c0 c1 c2 y0 y1
      have HX1 := hide (HX.out _ hb1)
      obtain ⟨⟨c0, c1, c2, _⟩, y0, y1⟩ := HX1.out
      clear hc hb1
      clear HX1
      have ha := awake_any w1
      go_wp2_with fail
      refine ha.mono ?_
      rintro e w9 ⟨rfl, hb9⟩
      have HB9 := hide (HB1.out.trans (hb9.mono HB1.out.size))
      clear ha hb9
      go_wp2
      go_ret
      exact ⟨rfl, HB9.out⟩
    · by_cases g2 : y < 0
      · go_enter Try.func6, Try.ntmps6
        go_wp2_with fail
        refine hc.mono ?_
        rintro e w1 ⟨rfl, hb1⟩
        have HB1 := hide (HB.out.trans (hb1.mono HB.out.size))
        clear c0 c1 c2 y0 y1
        have HX1 := hide (HX.out _ hb1)
        obtain ⟨⟨c0, c1, c2, _⟩, y0, y1⟩ := HX1.out
        clear hc hb1
        clear HX1
        have ha := awake_any w1
        go_wp2_with fail
        refine ha.mono ?_
        rintro e w9 ⟨rfl, hb9⟩
        have HB9 := hide (HB1.out.trans (hb9.mono HB1.out.size))
        clear ha hb9
        go_wp2
        go_ret
        exact ⟨rfl, HB9.out⟩
      · by_cases g3 : 65536 < x
        · go_enter Try.func6, Try.ntmps6
          go_wp2_with fail
          refine hc.mono ?_
          rintro e w1 ⟨rfl, hb1⟩
          have HB1 := hide (HB.out.trans (hb1.mono HB.out.size))
          clear c0 c1 c2 y0 y1
          have HX1 := hide (HX.out _ hb1)
          obtain ⟨⟨c0, c1, c2, _⟩, y0, y1⟩ := HX1.out
          clear hc hb1
          clear HX1
          have ha := awake_any w1
          go_wp2_with fail
          refine ha.mono ?_
          rintro e w9 ⟨rfl, hb9⟩
          have HB9 := hide (HB1.out.trans (hb9.mono HB1.out.size))
          clear ha hb9
          go_wp2
          go_ret
          exact ⟨rfl, HB9.out⟩
        · by_cases g4 : 65536 < y
          · go_enter Try.func6, Try.ntmps6
            go_wp2_with fail
            refine hc.mono ?_
            rintro e w1 ⟨rfl, hb1⟩
            have HB1 := hide (HB.out.trans (hb1.mono HB.out.size))
            clear c0 c1 c2 y0 y1
            have HX1 := hide (HX.out _ hb1)
            obtain ⟨⟨c0, c1, c2, _⟩, y0, y1⟩ := HX1.out
            clear hc hb1
            clear HX1
            have ha := awake_any w1
            go_wp2_with fail
            refine ha.mono ?_
            rintro e w9 ⟨rfl, hb9⟩
            have HB9 := hide (HB1.out.trans (hb9.mono HB1.out.size))
            clear ha hb9
            go_wp2
            go_ret
            exact ⟨rfl, HB9.out⟩
          · obtain ⟨S, rfl⟩ : ∃ S : Nat, s = S := ⟨s.toNat, by omega⟩
            obtain ⟨H, rfl⟩ : ∃ H : Nat, h = H := ⟨h.toNat, by omega⟩
            obtain ⟨T, rfl⟩ : ∃ T : Nat, t = T := ⟨t.toNat, by omega⟩
            obtain ⟨a, rfl⟩ : ∃ a : Nat, x = a := ⟨x.toNat, by omega⟩
            obtain ⟨b, rfl⟩ : ∃ b : Nat, y = b := ⟨y.toNat, by omega⟩
            have hd1 : decide ((a : Int) < 0) = false := decide_eq_false (by omega)
            have hd2 : decide ((b : Int) < 0) = false := decide_eq_false (by omega)
            have hd3 : decide ((65536 : Int) < (a : Int)) = false := decide_eq_false (by omega)
            have hd4 : decide ((65536 : Int) < (b : Int)) = false := decide_eq_false (by omega)
            have hwab : IntKind.i64.wrap ((a : Int) + (b : Int)) = (a : Int) + (b : Int) := by rw [IntKind.wrap_i64]; omega
            by_cases hA : H + a < 1099511627776 ∧ a ≤ S - (H - T)
            case neg =>
              have C1 : Hid (∀ w' : World, _) := fun w' => push_fail S H T a hm0 hA w'
              have C2 : Hid (∀ w' : World, _) := fun w' => push_ex S H T b hm0 w'
              have C3 : Hid (∀ w' : World, _) := fun w' => push_fail S H T (a + b) hm0 (by omega) w'
              rw [show ((a + b : Nat) : Int) = (a : Int) + (b : Int) by omega] at C3
              have heq : ∀ w, (binOp .eql 23 (.agg #[.int .i64 (S : Nat), .int .i64 (H : Nat), .int .i64 (T : Nat)]) (.agg #[.int .i64 (S : Nat), .int .i64 (H : Nat), .int .i64 (T : Nat)])).run Try.prog w = .ok (.bool true) w := fun w => by rw [run_eql23, decide_eq_true ⟨rfl, rfl, rfl⟩]
              clear m1 m2 m3 m4 m5 m6 g1 g2 g3 g4 hm0 hx hy hs hh ht hA
              go_enter Try.func6, Try.ntmps6
              go_wp2_with fail
              refine hc.mono ?_
              rintro e w1 ⟨rfl, hb1⟩
              have HB1 := hide (HB.out.trans (hb1.mono HB.out.size))
              clear c0 c1 c2 y0 y1
              have HX1 := hide (HX.out _ hb1)
              obtain ⟨⟨c0, c1, c2, _⟩, y0, y1⟩ := HX1.out
              clear hc hb1
              have hk := C1.out w1
              go_wp2_with fail
              refine hk.mono ?_
              rintro e w2 ⟨er, rfl, her, hb2⟩
              have HB2 := hide (HB1.out.trans (hb2.mono HB1.out.size))
              have HB2' := hide (HB2.out.alloc HB2.out.size (.cells #[.int .i64 (S : Nat), .int .i64 (H : Nat), .int .i64 (T : Nat)] 23))
              have HX3 := hide (HX1.out.1.later hb2)
              obtain ⟨r0, r1, r2, r3⟩ := Rc.new w2 (S : Nat) (H : Nat) (T : Nat)
              clear hk hb2 c0 c1 c2 y0 y1
              obtain ⟨c0, c1, c2, _⟩ := HX3.out
              have HX4 := hide (HX3.out.later (below_alloc w2 (.cells #[.int .i64 (S : Nat), .int .i64 (H : Nat), .int .i64 (T : Nat)] 23)))
              have hk := C2.out (w2.alloc (.cells #[.int .i64 (S : Nat), .int .i64 (H : Nat), .int .i64 (T : Nat)] 23))
              go_wp2_with fail
              refine hk.mono ?_
              rintro e w3 ⟨qh, v3, er3, rfl, hb3⟩
              have HB3 := hide (HB2'.out.trans (hb3.mono HB2'.out.size))
              have HX5 := hide (HX4.out.later hb3)
              have HB3' := hide (HB3.out.alloc HB3.out.size (.cells #[.int .i64 (S : Nat), .int .i64 qh, .int .i64 (T : Nat)] 23))
              clear hk hb3 c0 c1 c2 r0 r1 r2 r3
              have HX6 := hide (HX5.out.later (below_alloc w3 (.cells #[.int .i64 (S : Nat), .int .i64 qh, .int .i64 (T : Nat)] 23)))
              obtain ⟨c0, c1, c2, _⟩ := HX5.out
              have hk := C3.out (w3.alloc (.cells #[.int .i64 (S : Nat), .int .i64 qh, .int .i64 (T : Nat)] 23))
              go_wp2_with fail
              refine hk.mono ?_
              rintro e w4 ⟨er4, rfl, her4, hb4⟩
              have HB4 := hide (HB3'.out.trans (hb4.mono HB3'.out.size))
              have hne4 : (er4 != 0) = true := by simpa using her4
              have HX7 := hide (HX6.out.later hb4)
              have HB4' := hide (HB4.out.alloc HB4.out.size (.cells #[.int .i64 (S : Nat), .int .i64 (H : Nat), .int .i64 (T : Nat)] 23))
              clear hk hb4 c0 c1 c2
              obtain ⟨c0, c1, c2, _⟩ := HX7.out
              obtain ⟨r0, r1, r2, r3⟩ := Rc.new w4 (S : Nat) (H : Nat) (T : Nat)
              have ha := awake_any (w4.alloc (.cells #[.int .i64 (S : Nat), .int .i64 (H : Nat), .int .i64 (T : Nat)] 23))
              go_wp2_with fail
              refine ha.mono ?_
              rintro e w9 ⟨rfl, hb9⟩
              have HB9 := hide (HB4'.out.trans (hb9.mono HB4'.out.size))
              clear ha hb9
              go_wp2
              go_ret
              exact ⟨rfl, HB9.out⟩
            case pos =>
            by_cases hB : H + a + b < 1099511627776 ∧ b ≤ S - (H + a - T)
            case neg =>
              obtain ⟨HA, hHA⟩ : ∃ HA : Int, HA = (H : Int) + (a : Int) := ⟨_, rfl⟩
              have hm2 : mayR S ((H + a : Nat) : Int) T = true := decide_eq_true (by omega)
              have C1 : Hid (∀ w' : World, _) := fun w' => push_ok S H T a hm0 hA.1 hA.2 w'
              have C2 : Hid (∀ w' : World, _) := fun w' => push_fail S (H + a) T b hm2 hB w'
              have C3 : Hid (∀ w' : World, _) := fun w' => push_fail S H T (a + b) hm0 (by omega) w'
              rw [show ((a + b : Nat) : Int) = (a : Int) + (b : Int) by omega] at C3
              rw [← hHA] at C1
              rw [show ((H + a : Nat) : Int) = HA by omega] at C2
              have heq : ∀ w, (binOp .eql 23 (.agg #[.int .i64 (S : Nat), .int .i64 (H : Nat), .int .i64 (T : Nat)]) (.agg #[.int .i64 (S : Nat), .int .i64 (H : Nat), .int .i64 (T : Nat)])).run Try.prog w = .ok (.bool true) w := fun w => by rw [run_eql23, decide_eq_true ⟨rfl, rfl, rfl⟩]
              clear m1 m2 m3 m4 m5 m6 g1 g2 g3 g4 hm0 hm2 hx hy hs hh ht hA hB hHA
              go_enter Try.func6, Try.ntmps6
              go_wp2_with fail
              refine hc.mono ?_
              rintro e w1 ⟨rfl, hb1⟩
              have HB1 := hide (HB.out.trans (hb1.mono HB.out.size))
              clear c0 c1 c2 y0 y1
              have HX1 := hide (HX.out _ hb1)
              obtain ⟨⟨c0, c1, c2, _⟩, y0, y1⟩ := HX1.out
              clear hc hb1
              have hk := C1.out w1
              go_wp2_with fail
              refine hk.mono ?_
              rintro e w2 ⟨v2, rfl, ho2, hf2, hb2⟩
              have HB2 := hide (HB1.out.trans (hb2.mono HB1.out.size))
              have HB2' := hide (HB2.out.alloc HB2.out.size (.cells #[.int .i64 (S : Nat), .int .i64 HA, .int .i64 (T : Nat)] 23))
              have HX3 := hide (HX1.out.1.later hb2)
              obtain ⟨r0, r1, r2, r3⟩ := Rc.new w2 (S : Nat) HA (T : Nat)
              clear hk hb2 c0 c1 c2 y0 y1 ho2 hf2
              have HX4 := hide (HX3.out.later (below_alloc w2 (.cells #[.int .i64 (S : Nat), .int .i64 HA, .int .i64 (T : Nat)] 23)))
              have hk := C2.out (w2.alloc (.cells #[.int .i64 (S : Nat), .int .i64 HA, .int .i64 (T : Nat)] 23))
              go_wp2_with fail
              refine hk.mono ?_
              rintro e w3 ⟨er3, rfl, her3, hb3⟩
              have HB3 := hide (HB2'.out.trans (hb3.mono HB2'.out.size))
              have HX5 := hide (HX4.out.later hb3)
              have HB3' := hide (HB3.out.alloc HB3.out.size (.cells #[.int .i64 (S : Nat), .int .i64 HA, .int .i64 (T : Nat)] 23))
              clear hk hb3 r0 r1 r2 r3
              have HX6 := hide (HX5.out.later (below_alloc w3 (.cells #[.int .i64 (S : Nat), .int .i64 HA, .int .i64 (T : Nat)] 23)))
              obtain ⟨c0, c1, c2, _⟩ := HX5.out
              have hk := C3.out (w3.alloc (.cells #[.int .i64 (S : Nat), .int .i64 HA, .int .i64 (T : Nat)] 23))
              go_wp2_with fail
              refine hk.mono ?_
              rintro e w4 ⟨er4, rfl, her4, hb4⟩
              have HB4 := hide (HB3'.out.trans (hb4.mono HB3'.out.size))
              have hne4 : (er4 != 0) = true := by simpa using her4
              have HX7 := hide (HX6.out.later hb4)
              have HB4' := hide (HB4.out.alloc HB4.out.size (.cells #[.int .i64 (S : Nat), .int .i64 (H : Nat), .int .i64 (T : Nat)] 23))
              clear hk hb4 c0 c1 c2
              obtain ⟨c0, c1, c2, _⟩ := HX7.out
              obtain ⟨r0, r1, r2, r3⟩ := Rc.new w4 (S : Nat) (H : Nat) (T : Nat)
              have ha := awake_any (w4.alloc (.cells #[.int .i64 (S : Nat), .int .i64 (H : Nat), .int .i64 (T : Nat)] 23))
              go_wp2_with fail
              refine ha.mono ?_
              rintro e w9 ⟨rfl, hb9⟩
              have HB9 := hide (HB4'.out.trans (hb9.mono HB4'.out.size))
              clear ha hb9
              go_wp2
              go_ret
              exact ⟨rfl, HB9.out⟩
            case pos =>
            obtain ⟨HA, hHA⟩ : ∃ HA : Int, HA = (H : Int) + (a : Int) := ⟨_, rfl⟩
            obtain ⟨HAB, hHAB⟩ : ∃ HAB : Int, HAB = (H : Int) + (a : Int) + (b : Int) := ⟨_, rfl⟩
            obtain ⟨U, hU⟩ : ∃ U : Int, U = (H : Int) - (T : Int) := ⟨_, rfl⟩
            have hm2 : mayR S ((H + a : Nat) : Int) T = true := decide_eq_true (by omega)
            have hm3 : mayR S HAB T = true := decide_eq_true (by omega)
            have C1 : Hid (∀ w' : World, _) := fun w' => push_ok S H T a hm0 hA.1 hA.2 w'
            have C2 : Hid (∀ w' : World, _) := fun w' => push_ok S (H + a) T b hm2 hB.1 hB.2 w'
            have C3 : Hid (∀ w' : World, _) := fun w' => push_ok S H T (a + b) hm0 (by omega) (by omega) w'
            have CU1 : Hid (∀ w' : World, _) := fun w' => used_any S H T ⟨by omega, by omega⟩ ⟨by omega, by omega⟩ w'
            have CU2 : Hid (∀ w' : World, _) := fun w' => used_any S HAB T ⟨by omega, by omega⟩ ⟨by omega, by omega⟩ w'
            rw [show usedR S H T = U by unfold usedR; rw [hm0]; exact hU.symm] at CU1
            rw [show usedR S HAB T = U + (a : Int) + (b : Int) by unfold usedR; rw [hm3, if_pos rfl]; omega] at CU2
            have HF1 := hide (sec_fits (s := S) (p := H) (n := a) (by omega) (by omega) (by omega))
            have HF2 := hide (sec_fits (s := S) (p := H + a) (n := b) (by omega) (by omega) (by omega))
            have HF3 := hide (sec_fits (s := S) (p := H) (n := a + b) (by omega) (by omega) (by omega))
            have HZ1 := hide (sec_fit (s := S) (p := H) (n := a) (by omega) (by omega) (by omega))
            have HZ2 := hide (sec_fit (s := S) (p := H + a) (n := b) (by omega) (by omega) (by omega))
            have HZ3 := hide (sec_fit (s := S) (p := H) (n := a + b) (by omega) (by omega) (by omega))
            have HU1 := hide (sum_sec (s := S) (p := H) (n := a) (by omega) (by omega))
            have HU2 := hide (sum_sec (s := S) (p := H + a) (n := b) (by omega) (by omega))
            have HU3 := hide (sum_sec (s := S) (p := H) (n := a + b) (by omega) (by omega))
            rw [show ((a + b : Nat) : Int) = (a : Int) + (b : Int) by omega] at HU3
            rw [show ((a + b : Nat) : Int) = (a : Int) + (b : Int) by omega, show (H : Int) + ((a : Int) + (b : Int)) = HAB by omega] at C3
            rw [← hHA] at C1
            rw [show ((H + a : Nat) : Int) = HA by omega, show HA + (b : Int) = HAB by omega] at C2
            have hS6 : S ≤ 65536 := by omega
            have hl1 := sec_len S H a
            have hl2 := sec_len S (H + a) b
            have hl3 := sec_len S H (a + b)
            generalize secL S H a = L1 at *
            generalize secL S (H + a) b = L2 at *
            generalize secL S H (a + b) = L3 at *
            have heq : ∀ w, (binOp .eql 23 (.agg #[.int .i64 (S : Nat), .int .i64 HAB, .int .i64 (T : Nat)]) (.agg #[.int .i64 (S : Nat), .int .i64 HAB, .int .i64 (T : Nat)])).run Try.prog w = .ok (.bool true) w := fun w => by rw [run_eql23, decide_eq_true ⟨rfl, rfl, rfl⟩]
            have hv1 : IntKind.i64.wrap (U + (a : Int)) = U + (a : Int) := by rw [IntKind.wrap_i64]; omega
            have hv2 : IntKind.i64.wrap (U + (a : Int) + (b : Int)) = U + (a : Int) + (b : Int) := by rw [IntKind.wrap_i64]; omega
            clear m1 m2 m3 m4 m5 m6 g1 g2 g3 g4 hm0 hm2 hm3 hx hy hs hh ht hA hB hHA hHAB hU
            go_enter Try.func6, Try.ntmps6
            go_wp2_with fail
            refine hc.mono ?_
            rintro e w1 ⟨rfl, hb1⟩
            have HB1 := hide (HB.out.trans (hb1.mono HB.out.size))
            clear c0 c1 c2 y0 y1
            have HX1 := hide (HX.out _ hb1)
            obtain ⟨⟨c0, c1, c2, _⟩, y0, y1⟩ := HX1.out
            clear hc hb1
            have hk := C1.out w1
            go_wp2_with fail
            refine hk.mono ?_
            rintro e w2 ⟨v1, rfl, ho1, hf1, hb2⟩
            obtain ⟨a1, k1, rfl, hs1⟩ := own_slot ho1 HF1.out
            have HB2 := hide (HB1.out.trans (hb2.mono HB1.out.size))
            have HB2' := hide (HB2.out.alloc HB2.out.size (.cells #[.int .i64 (S : Nat), .int .i64 HA, .int .i64 (T : Nat)] 23))
            have HX3 := hide (HX1.out.1.later hb2)
            have HS1 : Hid (∀ w', Below (w2.alloc (.cells #[.int .i64 (S : Nat), .int .i64 HA, .int .i64 (T : Nat)] 23)).heap.size (w2.alloc (.cells #[.int .i64 (S : Nat), .int .i64 HA, .int .i64 (T : Nat)] 23)) w' → Sl w' a1 L1.length L1) := fun w' hb => hs1 w' ((below_alloc w2 (.cells #[.int .i64 (S : Nat), .int .i64 HA, .int .i64 (T : Nat)] 23)).trans (hb.mono (below_alloc w2 (.cells #[.int .i64 (S : Nat), .int .i64 HA, .int .i64 (T : Nat)] 23)).size))
            obtain ⟨r0, r1, r2, r3⟩ := Rc.new w2 (S : Nat) HA (T : Nat)
            clear hk hb2 c0 c1 c2 y0 y1 ho1 hf1 hs1
            have HX4 := hide (HX3.out.later (below_alloc w2 (.cells #[.int .i64 (S : Nat), .int .i64 HA, .int .i64 (T : Nat)] 23)))
            have hk := C2.out (w2.alloc (.cells #[.int .i64 (S : Nat), .int .i64 HA, .int .i64 (T : Nat)] 23))
            go_wp2_with fail
            refine hk.mono ?_
            rintro e w3 ⟨v2, rfl, ho2, hf2, hb3⟩
            obtain ⟨a2, k2, rfl, hs2⟩ := own_slot ho2 HF2.out
            have HB3 := hide (HB2'.out.trans (hb3.mono HB2'.out.size))
            have HX5 := hide (HX4.out.later hb3)
            have HB3' := hide (HB3.out.alloc HB3.out.size (.cells #[.int .i64 (S : Nat), .int .i64 HAB, .int .i64 (T : Nat)] 23))
            have hbx := hb3.trans ((below_alloc w3 (.cells #[.int .i64 (S : Nat), .int .i64 HAB, .int .i64 (T : Nat)] 23)).mono hb3.size)
            have HS1b : Hid (∀ w', Below (w3.alloc (.cells #[.int .i64 (S : Nat), .int .i64 HAB, .int .i64 (T : Nat)] 23)).heap.size (w3.alloc (.cells #[.int .i64 (S : Nat), .int .i64 HAB, .int .i64 (T : Nat)] 23)) w' → Sl w' a1 L1.length L1) := fun w' hb => HS1.out w' (hbx.trans (hb.mono hbx.size))
            have HS2 : Hid (∀ w', Below (w3.alloc (.cells #[.int .i64 (S : Nat), .int .i64 HAB, .int .i64 (T : Nat)] 23)).heap.size (w3.alloc (.cells #[.int .i64 (S : Nat), .int .i64 HAB, .int .i64 (T : Nat)] 23)) w' → Sl w' a2 L2.length L2) := fun w' hb => hs2 w' ((below_alloc w3 (.cells #[.int .i64 (S : Nat), .int .i64 HAB, .int .i64 (T : Nat)] 23)).trans (hb.mono (below_alloc w3 (.cells #[.int .i64 (S : Nat), .int .i64 HAB, .int .i64 (T : Nat)] 23)).size))
            have HY3 := hide (Rc.new w3 (S : Nat) HAB (T : Nat))
            clear hk hb3 r0 r1 r2 r3 hbx ho2 hf2 hs2 HS1
            have HX6 := hide (HX5.out.later (below_alloc w3 (.cells #[.int .i64 (S : Nat), .int .i64 HAB, .int .i64 (T : Nat)] 23)))
            obtain ⟨c0, c1, c2, _⟩ := HX5.out
            have hk := C3.out (w3.alloc (.cells #[.int .i64 (S : Nat), .int .i64 HAB, .int .i64 (T : Nat)] 23))
            go_wp2_with fail
            refine hk.mono ?_
            rintro e w4 ⟨v3, rfl, ho3, hf3, hb4⟩
            obtain ⟨a3, k3, rfl, hs3⟩ := own_slot ho3 HF3.out
            have HB4 := hide (HB3'.out.trans (hb4.mono HB3'.out.size))
            have HX7 := hide ((HX6.out.later hb4).later (below_alloc w4 (.cells #[.int .i64 (S : Nat), .int .i64 HAB, .int .i64 (T : Nat)] 23)))
            have HY4 := hide ((HY3.out.later hb4).later (below_alloc w4 (.cells #[.int .i64 (S : Nat), .int .i64 HAB, .int .i64 (T : Nat)] 23)))
            have HZ4 := hide (Rc.new w4 (S : Nat) HAB (T : Nat))
            have HB4' := hide (HB4.out.alloc HB4.out.size (.cells #[.int .i64 (S : Nat), .int .i64 HAB, .int .i64 (T : Nat)] 23))
            have hbx := hb4.trans ((below_alloc w4 (.cells #[.int .i64 (S : Nat), .int .i64 HAB, .int .i64 (T : Nat)] 23)).mono hb4.size)
            obtain ⟨W5, hW5⟩ : ∃ W5, W5 = w4.alloc (.cells #[.int .i64 (S : Nat), .int .i64 HAB, .int .i64 (T : Nat)] 23) := ⟨_, rfl⟩
            have HQZ : Hid (∀ wp, Below (w4.alloc (.cells #[.int .i64 (S : Nat), .int .i64 HAB, .int .i64 (T : Nat)] 23)).heap.size (w4.alloc (.cells #[.int .i64 (S : Nat), .int .i64 HAB, .int .i64 (T : Nat)] 23)) wp → Calls Try.prog 20 #[.slice a1 L1.length k1] wp fun e w' => e = .returned (.int .i64 (a : Nat)) ∧ Below wp.heap.size wp w') := fun wp hp => by
              have := size_any (cap := k1) (HS1b.out wp (hbx.trans (hp.mono hbx.size))) (fun x hx => by have := HZ1.out x hx; omega) (by omega)
              rwa [HU1.out] at this
            have HQY : Hid (∀ wp, Below (w4.alloc (.cells #[.int .i64 (S : Nat), .int .i64 HAB, .int .i64 (T : Nat)] 23)).heap.size (w4.alloc (.cells #[.int .i64 (S : Nat), .int .i64 HAB, .int .i64 (T : Nat)] 23)) wp → Calls Try.prog 20 #[.slice a2 L2.length k2] wp fun e w' => e = .returned (.int .i64 (b : Nat)) ∧ Below wp.heap.size wp w') := fun wp hp => by
              have := size_any (cap := k2) (HS2.out wp (hbx.trans (hp.mono hbx.size))) (fun x hx => by have := HZ2.out x hx; omega) (by omega)
              rwa [HU2.out] at this
            have HQX : Hid (∀ wp, Below (w4.alloc (.cells #[.int .i64 (S : Nat), .int .i64 HAB, .int .i64 (T : Nat)] 23)).heap.size (w4.alloc (.cells #[.int .i64 (S : Nat), .int .i64 HAB, .int .i64 (T : Nat)] 23)) wp → Calls Try.prog 20 #[.slice a3 L3.length k3] wp fun e w' => e = .returned (.int .i64 ((a : Int) + (b : Int))) ∧ Below wp.heap.size wp w') := fun wp hp => by
              have := size_any (cap := k3) (hs3 wp ((below_alloc w4 (.cells #[.int .i64 (S : Nat), .int .i64 HAB, .int .i64 (T : Nat)] 23)).trans (hp.mono (below_alloc w4 (.cells #[.int .i64 (S : Nat), .int .i64 HAB, .int .i64 (T : Nat)] 23)).size))) (fun x hx => by have := HZ3.out x hx; omega) (by omega)
              rwa [HU3.out] at this
            rw [← hW5] at HX7 HY4 HZ4 HB4' HQZ HQY HQX
            have HW5 := hide hW5
            clear hk hb4 c0 c1 c2 ho3 hf3 hs3 hbx HS1b HS2 hW5 hl1 hl2 hl3
            generalize L1.length = n1 at *
            generalize L2.length = n2 at *
            generalize L3.length = n3 at *
            go_wp2
            rw [← HW5.out]
            have CZ : ∀ P : Later W5, _ := fun P => HQZ.out P.val P.below
            have CY : ∀ P : Later W5, _ := fun P => HQY.out P.val P.below
            have CX : ∀ P : Later W5, _ := fun P => HQX.out P.val P.below
            have X0 : ∀ P : Later W5, _ := fun P => (HX7.out.later P.below).c0
            have X1 : ∀ P : Later W5, _ := fun P => (HX7.out.later P.below).c1
            have X2 : ∀ P : Later W5, _ := fun P => (HX7.out.later P.below).c2
            have Y0 : ∀ P : Later W5, _ := fun P => (HY4.out.later P.below).c0
            have Y1 : ∀ P : Later W5, _ := fun P => (HY4.out.later P.below).c1
            have Y2 : ∀ P : Later W5, _ := fun P => (HY4.out.later P.below).c2
            have Z0 : ∀ P : Later W5, _ := fun P => (HZ4.out.later P.below).c0
            have Z1 : ∀ P : Later W5, _ := fun P => (HZ4.out.later P.below).c1
            have Z2 : ∀ P : Later W5, _ := fun P => (HZ4.out.later P.below).c2
            have CA : ∀ P : Later W5, _ := fun P => CU1.out P.val
            have CB : ∀ P : Later W5, _ := fun P => CU2.out P.val
            have CW : ∀ P : Later W5, _ := fun P => awake_any P.val
            have hne := later_ne W5
            refine wp_region_later (by kernel_rfl) (by kernel_rfl) ?_
            (repeat (first | go_big_quiet_skip | (go_big_quiet_want; go_big_quiet_op; go_big_quiet_on)))
            (go_big_quiet_want; go_big_quiet_op; apply Exists.intro; refine ⟨fun p => ?_, ?_⟩; (· exact later_of (CZ p)); go_big_quiet_on)
            (repeat (first | go_big_quiet_skip | (go_big_quiet_want; go_big_quiet_op; go_big_quiet_on)))
            (go_big_quiet_want; go_big_quiet_op; apply Exists.intro; refine ⟨fun p => ?_, ?_⟩; (· exact later_of (CY p)); go_big_quiet_on)
            (repeat (first | go_big_quiet_skip | (go_big_quiet_want; go_big_quiet_op; go_big_quiet_on)))
            (go_big_quiet_want; go_big_quiet_op; apply Exists.intro; refine ⟨fun p => ?_, ?_⟩; (· exact later_of (CX p)); go_big_quiet_on)
            (repeat (first | go_big_quiet_skip | (go_big_quiet_want; go_big_quiet_op; go_big_quiet_on)))
            (go_big_quiet_want; go_big_quiet_op; apply Exists.intro; refine ⟨fun p => ?_, ?_⟩; (· exact later_of (CA p)); go_big_quiet_on)
            (repeat (first | go_big_quiet_skip | (go_big_quiet_want; go_big_quiet_op; go_big_quiet_on)))
            (go_big_quiet_want; go_big_quiet_op; apply Exists.intro; refine ⟨fun p => ?_, ?_⟩; (· exact later_of (CB p)); go_big_quiet_on)
            (repeat (first | go_big_quiet_skip | (go_big_quiet_want; go_big_quiet_op; go_big_quiet_on)))
            (go_big_quiet_want; go_big_quiet_op; apply Exists.intro; refine ⟨fun p => ?_, ?_⟩; (· exact later_of (CW p)); go_big_quiet_on)
            (repeat (first | go_big_quiet_skip | (go_big_quiet_want; go_big_quiet_op; go_big_quiet_on)))
            refine wpQuiet_nil ?_
            rintro _ ⟨p_1, rfl⟩
            have HB5 := hide (HB4'.out.trans (p_1.below.mono HB4'.out.size))
            clear CZ CY CX X0 X1 X2 Y0 Y1 Y2 Z0 Z1 Z2 CA CB CW hne
            generalize p_1.val = w6 at *
            go_wp2
            go_ret
            exact ⟨rfl, HB5.out⟩

end Sp
end Go.Proofs.Ytbgadcofjhgmiaa
