/- The law RingRound, walked. -/
import Derived.Test.YtbgadcofjhgmiaaLa
namespace Go.Proofs.Ytbgadcofjhgmiaa
open Go.RowKit
namespace Sp

set_option maxRecDepth 100000 in
set_option maxHeartbeats 16000000 in
theorem ringRound_walk (s h t pos n : Int) (W : World) (hs : I64 s) (hh : I64 h) (ht : I64 t) (hp : I64 pos) (hn : I64 n) : Calls Try.prog 7 #[.agg #[.int .i64 s, .int .i64 h, .int .i64 t], .int .i64 pos, .int .i64 n] W fun e w' => e = .returned (.bool true) ∧ Below W.heap.size W w' := by
  have hc := refmay_any s h t hh ht (W.alloc (.cells #[.int .i64 s, .int .i64 h, .int .i64 t] 23))
  have HX := hide (Rc.new W s h t)
  have HB := hide (below_alloc W (.cells #[.int .i64 s, .int .i64 h, .int .i64 t] 23))
  obtain ⟨c0, c1, c2, _⟩ := HX.out
  cases hm : mayR s h t with
  | false =>
    rw [hm] at hc
    clear hm
    go_enter Try.func7, Try.ntmps7
    go_wp2_with fail
    refine hc.mono ?_
    rintro e w1 ⟨rfl, hb1⟩
    have HB1 := hide (HB.out.trans (hb1.mono HB.out.size))
    clear c0 c1 c2
    obtain ⟨c0, c1, c2, _⟩ := HX.out.later hb1
    clear hc hb1
    have ha := awake_any w1
    go_wp2_with fail
    refine ha.mono ?_
    rintro e w9 ⟨rfl, hb9⟩
    have HB9 := hide (HB1.out.trans (hb9.mono HB1.out.size))
    clear ha hb9
    go_wp2
    go_ret
    exact ⟨rfl, HB9.out⟩
  | true =>
    rw [hm] at hc
    have hm0 := hm
    obtain ⟨m1, m2, m3, m4, m5, m6⟩ := mayR_get hm
    clear hm
    by_cases g1 : 300 < s
    · go_enter Try.func7, Try.ntmps7
      go_wp2_with fail
      refine hc.mono ?_
      rintro e w1 ⟨rfl, hb1⟩
      have HB1 := hide (HB.out.trans (hb1.mono HB.out.size))
      clear c0 c1 c2
      obtain ⟨c0, c1, c2, _⟩ := HX.out.later hb1
      clear hc hb1
      have ha := awake_any w1
      go_wp2_with fail
      refine ha.mono ?_
      rintro e w9 ⟨rfl, hb9⟩
      have HB9 := hide (HB1.out.trans (hb9.mono HB1.out.size))
      clear ha hb9
      go_wp2
      go_ret
      exact ⟨rfl, HB9.out⟩
    · by_cases g2 : pos < 0
      · go_enter Try.func7, Try.ntmps7
        go_wp2_with fail
        refine hc.mono ?_
        rintro e w1 ⟨rfl, hb1⟩
        have HB1 := hide (HB.out.trans (hb1.mono HB.out.size))
        clear c0 c1 c2
        obtain ⟨c0, c1, c2, _⟩ := HX.out.later hb1
        clear hc hb1
        have ha := awake_any w1
        go_wp2_with fail
        refine ha.mono ?_
        rintro e w9 ⟨rfl, hb9⟩
        have HB9 := hide (HB1.out.trans (hb9.mono HB1.out.size))
        clear ha hb9
        go_wp2
        go_ret
        exact ⟨rfl, HB9.out⟩
      · by_cases g3 : 1000000 ≤ pos
        · go_enter Try.func7, Try.ntmps7
          go_wp2_with fail
          refine hc.mono ?_
          rintro e w1 ⟨rfl, hb1⟩
          have HB1 := hide (HB.out.trans (hb1.mono HB.out.size))
          clear c0 c1 c2
          obtain ⟨c0, c1, c2, _⟩ := HX.out.later hb1
          clear hc hb1
          have ha := awake_any w1
          go_wp2_with fail
          refine ha.mono ?_
          rintro e w9 ⟨rfl, hb9⟩
          have HB9 := hide (HB1.out.trans (hb9.mono HB1.out.size))
          clear ha hb9
          go_wp2
          go_ret
          exact ⟨rfl, HB9.out⟩
        · by_cases g4 : n < 0
          · go_enter Try.func7, Try.ntmps7
            go_wp2_with fail
            refine hc.mono ?_
            rintro e w1 ⟨rfl, hb1⟩
            have HB1 := hide (HB.out.trans (hb1.mono HB.out.size))
            clear c0 c1 c2
            obtain ⟨c0, c1, c2, _⟩ := HX.out.later hb1
            clear hc hb1
            have ha := awake_any w1
            go_wp2_with fail
            refine ha.mono ?_
            rintro e w9 ⟨rfl, hb9⟩
            have HB9 := hide (HB1.out.trans (hb9.mono HB1.out.size))
            clear ha hb9
            go_wp2
            go_ret
            exact ⟨rfl, HB9.out⟩
          · by_cases g5 : s < n
            · go_enter Try.func7, Try.ntmps7
              go_wp2_with fail
              refine hc.mono ?_
              rintro e w1 ⟨rfl, hb1⟩
              have HB1 := hide (HB.out.trans (hb1.mono HB.out.size))
              clear c0 c1 c2
              obtain ⟨c0, c1, c2, _⟩ := HX.out.later hb1
              clear hc hb1
              have ha := awake_any w1
              go_wp2_with fail
              refine ha.mono ?_
              rintro e w9 ⟨rfl, hb9⟩
              have HB9 := hide (HB1.out.trans (hb9.mono HB1.out.size))
              clear ha hb9
              go_wp2
              go_ret
              exact ⟨rfl, HB9.out⟩
            · obtain ⟨S, rfl⟩ : ∃ S : Nat, s = S := ⟨s.toNat, by omega⟩
              obtain ⟨H, rfl⟩ : ∃ H : Nat, h = H := ⟨h.toNat, by omega⟩
              obtain ⟨T, rfl⟩ : ∃ T : Nat, t = T := ⟨t.toNat, by omega⟩
              obtain ⟨p, rfl⟩ : ∃ p : Nat, pos = p := ⟨pos.toNat, by omega⟩
              obtain ⟨N, rfl⟩ : ∃ N : Nat, n = N := ⟨n.toNat, by omega⟩
              have hd1 : decide ((300 : Int) < (S : Int)) = false := decide_eq_false (by omega)
              have hd2 : decide ((p : Int) < 0) = false := decide_eq_false (by omega)
              have hd3 : decide ((1000000 : Int) ≤ (p : Int)) = false := decide_eq_false (by omega)
              have hd4 : decide ((N : Int) < 0) = false := decide_eq_false (by omega)
              have hd5 : decide ((S : Int) < (N : Int)) = false := decide_eq_false (by omega)
              have hS1 : 1 ≤ S := by omega
              have hS2 : S ≤ 300 := by omega
              have hNS : N ≤ S := by omega
              have hw : IntKind.i64.wrap ((p : Int) + (S : Int)) = (p : Int) + (S : Int) := by rw [IntKind.wrap_i64]; omega
              have C1 : Hid (∀ w' : World, _) := fun w' => at_ok S H T p N hm0 (by omega) hNS w'
              have C2 : Hid (∀ w' : World, _) := fun w' => at_ok S H T (p + S) N hm0 (by omega) hNS w'
              have C3 : Hid (∀ w' : World, _) := fun w' => at_ok S H T p S hm0 (by omega) (Nat.le_refl S) w'
              rw [sec_turn, show ((p + S : Nat) : Int) = (p : Int) + (S : Int) by omega] at C2
              have HF1 := hide (sec_fits (p := p) hS1 (show S ≤ 65536 by omega) hNS)
              have HF3 := hide (sec_fits (p := p) hS1 (show S ≤ 65536 by omega) (Nat.le_refl S))
              have HU1 := hide (sum_sec (p := p) hS1 hNS)
              have HU3 := hide (sum_sec (p := p) hS1 (Nat.le_refl S))
              have HZ1 := hide (sec_fit (p := p) hS1 (show S ≤ 65536 by omega) hNS)
              have HZ3 := hide (sec_fit (p := p) hS1 (show S ≤ 65536 by omega) (Nat.le_refl S))
              have HA3 := hide (sec_allB (p := p) hS1 (show S ≤ 65536 by omega) (Nat.le_refl S))
              have HW3 : Hid (∀ i : Nat, i < S → wi (secL S p S) i = true) := fun i hi => sec_all hS1 hi
              have hl1 := sec_len S p N
              have hl3 := sec_len S p S
              generalize secL S p N = L1 at *
              generalize secL S p S = L3 at *
              clear m1 m2 m3 m4 m5 m6 g1 g2 g3 g4 g5 hm0 hp hn hs hh ht
              go_enter Try.func7, Try.ntmps7
              go_wp2_with fail
              refine hc.mono ?_
              rintro e w1 ⟨rfl, hb1⟩
              have HB1 := hide (HB.out.trans (hb1.mono HB.out.size))
              clear c0 c1 c2
              have HX1 := hide (HX.out.later hb1)
              obtain ⟨c0, c1, c2, _⟩ := HX1.out
              have hk := C1.out w1
              clear hc hb1
              go_wp2_with fail
              refine hk.mono ?_
              rintro e w2 ⟨v1, rfl, ho1, hf1, hb2⟩
              have HB2 := hide (HB1.out.trans (hb2.mono HB1.out.size))
              have HX2 := hide (HX1.out.later hb2)
              obtain ⟨a1, k1, rfl, hs1⟩ := own_slot ho1 HF1.out
              have HS1 := hide hs1
              clear hk ho1 hf1 hb2 hs1 c0 c1 c2
              obtain ⟨c0, c1, c2, _⟩ := HX2.out
              have hk := C2.out w2
              go_wp2_with fail
              refine hk.mono ?_
              rintro e w3 ⟨v2, rfl, ho2, hf2, hb3⟩
              have HB3 := hide (HB2.out.trans (hb3.mono HB2.out.size))
              have HX3 := hide (HX2.out.later hb3)
              obtain ⟨a2, k2, rfl, hs2⟩ := own_slot ho2 HF1.out
              have HS2 := hide hs2
              have HS1b : Hid (∀ w', Below w3.heap.size w3 w' → Sl w' a1 L1.length L1) := fun w' hb => HS1.out w' (hb3.trans (hb.mono hb3.size))
              clear hk ho2 hf2 hb3 hs2 c0 c1 c2 HS1
              obtain ⟨c0, c1, c2, _⟩ := HX3.out
              have hk := C3.out w3
              go_wp2_with fail
              refine hk.mono ?_
              rintro e w4 ⟨v3, rfl, ho3, hf3, hb4⟩
              have HB4 := hide (HB3.out.trans (hb4.mono HB3.out.size))
              have HX4 := hide (HX3.out.later hb4)
              obtain ⟨a3, k3, rfl, hs3⟩ := own_slot ho3 HF3.out
              have HS3 := hide hs3
              have CS : ∀ P : Later w4, _ := fun P => same_any a1 a2 L1.length L1.length k1 k2 L1 L1 P.val (HS1b.out P.val (hb4.trans (P.below.mono hb4.size))) (HS2.out P.val (hb4.trans (P.below.mono hb4.size)))
              rw [decide_eq_true rfl] at CS
              have CZ : ∀ P : Later w4, _ := fun P => size_any (cap := k1) (HS1b.out P.val (hb4.trans (P.below.mono hb4.size))) (fun x hx => by have := HZ1.out x hx; omega) (by omega)
              rw [HU1.out] at CZ
              have CY : ∀ P : Later w4, _ := fun P => size_any (cap := k3) (HS3.out P.val P.below) (fun x hx => by have := HZ3.out x hx; omega) (by omega)
              rw [HU3.out] at CY
              have X0 : ∀ P : Later w4, _ := fun P => (HX4.out.later P.below).c0
              have hne := later_ne w4
              clear hk ho3 hf3 hb4 hs3 c0 c1 c2 hl1 hl3
              generalize hq1 : L1.length = n1 at *
              generalize hq3 : L3.length = n3 at *
              have HQ3 := hide hq3
              clear hq1 hq3
              go_wp2
              refine wp_region_later (by kernel_rfl) (by kernel_rfl) ?_
              (repeat (first | go_big_quiet_skip | (go_big_quiet_want; go_big_quiet_op; go_big_quiet_on)))
              (go_big_quiet_want; go_big_quiet_op; apply Exists.intro; refine ⟨fun p => ?_, ?_⟩; (· exact later_of (CS p)); go_big_quiet_on)
              (repeat (first | go_big_quiet_skip | (go_big_quiet_want; go_big_quiet_op; go_big_quiet_on)))
              (go_big_quiet_want; go_big_quiet_op; apply Exists.intro; refine ⟨fun p => ?_, ?_⟩; (· exact later_of (CZ p)); go_big_quiet_on)
              (repeat (first | go_big_quiet_skip | (go_big_quiet_want; go_big_quiet_op; go_big_quiet_on)))
              (go_big_quiet_want; go_big_quiet_op; apply Exists.intro; refine ⟨fun p => ?_, ?_⟩; (· exact later_of (CY p)); go_big_quiet_on)
              (repeat (first | go_big_quiet_skip | (go_big_quiet_want; go_big_quiet_op; go_big_quiet_on)))
              refine wpQuiet_nil ?_
              rintro _ ⟨p_1, rfl⟩
              have HB5 := hide (HB4.out.trans (p_1.below.mono HB4.out.size))
              have HX5 := hide (HX4.out.later p_1.below)
              have HS5 : Hid (∀ w', Below p_1.val.heap.size p_1.val w' → Sl w' a3 n3 L3) := fun w' hb => HS3.out w' (p_1.below.trans (hb.mono p_1.below.size))
              clear CS CZ CY X0 hne HS3 HS2 HS1b
              generalize p_1.val = w5 at *
              obtain ⟨c0, c1, c2, _⟩ := HX5.out
              go_wp2
              go_loopw [13] (fun i wr => ∃ j : Nat, j ≤ S ∧ i = .int .i64 j ∧ Below w5.heap.size w5 wr) (fun i _ => S - (intOf i).toNat)
              case atStart => exact ⟨0, Nat.zero_le _, rfl, Below.refl _ _⟩
              case round =>
                clear c0 c1 c2
                obtain ⟨j, hj, rfl, hb⟩ := hrel
                obtain ⟨c0, c1, c2, _⟩ := HX5.out.later hb
                by_cases hlt : j < S
                · have hk := within_any a3 n3 k3 L3 (j : Nat) wr (HS5.out wr hb) HA3.out (by omega)
                  rw [HW3.out j hlt] at hk
                  have HBR := hide hb
                  clear hb
                  go_wp2_with fail
                  refine hk.mono ?_
                  rintro e w6 ⟨rfl, hb6⟩
                  have HB6 := hide (HBR.out.trans (hb6.mono HBR.out.size))
                  clear hk hb6 c0 c1 c2
                  go_wp2
                  go_roundw
                  case rel => exact ⟨j + 1, by omega, by go_num, HB6.out⟩
                  case measure => simp [intOf]; omega
                · obtain rfl : j = S := by omega
                  have HB6 := hide (HB5.out.trans (hb.mono HB5.out.size))
                  clear hb
                  have ha := awake_any wr
                  go_wp2_with fail
                  refine ha.mono ?_
                  rintro e w9 ⟨rfl, hb9⟩
                  have HB9 := hide (HB6.out.trans (hb9.mono HB6.out.size))
                  clear ha hb9
                  go_wp2
                  go_ret
                  exact ⟨rfl, HB9.out⟩

end Sp
end Go.Proofs.Ytbgadcofjhgmiaa
