/- The law RingAsks, of a ring that may not be. -/
import Derived.Test.YtbgadcofjhgmiaaLa
namespace Go.Proofs.Ytbgadcofjhgmiaa
open Go.RowKit
namespace Sp

theorem at_okI (s h t p n : Int) (hm : mayR s h t = true) (hp0 : 0 ≤ p) (hp : p < 1099511627776) (hn0 : 0 ≤ n) (hn : n ≤ s) (w : World) :
    Calls Try.prog 10 #[.agg #[.int .i64 s, .int .i64 h, .int .i64 t], .int .i64 p, .int .i64 n] w fun e w' => ∃ v, e = .returned (.tuple #[v, .int .i64 0]) ∧ Own w' v (secL s.toNat p.toNat n.toNat) ∧ From w.heap.size v ∧ Below w.heap.size w w' := by
  obtain ⟨m1, m2, m3, m4, m5, m6⟩ := mayR_get hm
  obtain ⟨S, rfl⟩ : ∃ S : Nat, s = S := ⟨s.toNat, by omega⟩
  obtain ⟨H, rfl⟩ : ∃ H : Nat, h = H := ⟨h.toNat, by omega⟩
  obtain ⟨T, rfl⟩ : ∃ T : Nat, t = T := ⟨t.toNat, by omega⟩
  obtain ⟨P, rfl⟩ : ∃ P : Nat, p = P := ⟨p.toNat, by omega⟩
  obtain ⟨N, rfl⟩ : ∃ N : Nat, n = N := ⟨n.toNat, by omega⟩
  rw [Int.toNat_natCast, Int.toNat_natCast, Int.toNat_natCast]
  exact at_ok S H T P N hm (by omega) (by omega) w
theorem refat_I (s p n : Int) (hs : 1 ≤ s) (hs2 : s ≤ 65536) (hp0 : 0 ≤ p) (hp : p < 1099511627776) (hn0 : 0 ≤ n) (hn : n ≤ s) (w : World) :
    Calls Try.prog 17 #[.int .i64 s, .int .i64 p, .int .i64 n] w fun e w' => ∃ v, e = .returned v ∧ Own w' v (secL s.toNat p.toNat n.toNat) ∧ From w.heap.size v ∧ Below w.heap.size w w' := by
  obtain ⟨S, rfl⟩ : ∃ S : Nat, s = S := ⟨s.toNat, by omega⟩
  obtain ⟨P, rfl⟩ : ∃ P : Nat, p = P := ⟨p.toNat, by omega⟩
  obtain ⟨N, rfl⟩ : ∃ N : Nat, n = N := ⟨n.toNat, by omega⟩
  rw [Int.toNat_natCast, Int.toNat_natCast, Int.toNat_natCast, ← ref_sec (by omega) (by omega)]
  exact refat_any S P N (by omega) (by omega) (by omega) (by omega) w
theorem push_okI (s h t n : Int) (hm : mayR s h t = true) (hn0 : 0 ≤ n) (hn : n < 1099511627776 - h) (hf : n ≤ s - (h - t)) (w : World) :
    Calls Try.prog 18 #[.agg #[.int .i64 s, .int .i64 h, .int .i64 t], .int .i64 n] w fun e w' => ∃ v, e = .returned (.tuple #[.agg #[.int .i64 s, .int .i64 (h + n), .int .i64 t], v, .int .i64 0]) ∧ Own w' v (secL s.toNat h.toNat n.toNat) ∧ From w.heap.size v ∧ Below w.heap.size w w' := by
  obtain ⟨m1, m2, m3, m4, m5, m6⟩ := mayR_get hm
  obtain ⟨S, rfl⟩ : ∃ S : Nat, s = S := ⟨s.toNat, by omega⟩
  obtain ⟨H, rfl⟩ : ∃ H : Nat, h = H := ⟨h.toNat, by omega⟩
  obtain ⟨T, rfl⟩ : ∃ T : Nat, t = T := ⟨t.toNat, by omega⟩
  obtain ⟨N, rfl⟩ : ∃ N : Nat, n = N := ⟨n.toNat, by omega⟩
  rw [Int.toNat_natCast, Int.toNat_natCast, Int.toNat_natCast]
  exact push_ok S H T N hm (by omega) (by omega) w
theorem pop_okI (s h t n : Int) (hm : mayR s h t = true) (hn0 : 0 ≤ n) (hf : n ≤ h - t) (w : World) :
    Calls Try.prog 19 #[.agg #[.int .i64 s, .int .i64 h, .int .i64 t], .int .i64 n] w fun e w' => ∃ v, e = .returned (.tuple #[.agg #[.int .i64 s, .int .i64 h, .int .i64 (t + n)], v, .int .i64 0]) ∧ Own w' v (secL s.toNat t.toNat n.toNat) ∧ From w.heap.size v ∧ Below w.heap.size w w' := by
  obtain ⟨m1, m2, m3, m4, m5, m6⟩ := mayR_get hm
  obtain ⟨S, rfl⟩ : ∃ S : Nat, s = S := ⟨s.toNat, by omega⟩
  obtain ⟨H, rfl⟩ : ∃ H : Nat, h = H := ⟨h.toNat, by omega⟩
  obtain ⟨T, rfl⟩ : ∃ T : Nat, t = T := ⟨t.toNat, by omega⟩
  obtain ⟨N, rfl⟩ : ∃ N : Nat, n = N := ⟨n.toNat, by omega⟩
  rw [Int.toNat_natCast, Int.toNat_natCast, Int.toNat_natCast]
  exact pop_ok S H T N hm (by omega) w
theorem sec_fitsI {s p n : Int} (hs : 1 ≤ s) (hs2 : s ≤ 65536) (hn : n ≤ s) : ∀ x ∈ secL s.toNat p.toNat n.toNat, Fit x := sec_fits (by omega) (by omega) (by omega)
theorem eq23 (a b c : Int) (w : World) : (binOp .eql 23 (.agg #[.int .i64 a, .int .i64 b, .int .i64 c]) (.agg #[.int .i64 a, .int .i64 b, .int .i64 c])).run Try.prog w = .ok (.bool true) w := by
  rw [run_eql23, decide_eq_true ⟨rfl, rfl, rfl⟩]
theorem run_neq23 (a b c a' b' c' : Int) (w : World) : (binOp .neq 23 (.agg #[.int .i64 a, .int .i64 b, .int .i64 c]) (.agg #[.int .i64 a', .int .i64 b', .int .i64 c'])).run Try.prog w = .ok (.bool (!decide (a = a' ∧ b = b' ∧ c = c'))) w := by
  simp [go_sem]
  by_cases h1 : a = a' <;> by_cases h2 : b = b' <;> by_cases h3 : c = c' <;> simp [h1, h2, h3]
theorem ne23 (a b c : Int) (w : World) : (binOp .neq 23 (.agg #[.int .i64 a, .int .i64 b, .int .i64 c]) (.agg #[.int .i64 a, .int .i64 b, .int .i64 c])).run Try.prog w = .ok (.bool false) w := by
  rw [run_neq23, decide_eq_true ⟨rfl, rfl, rfl⟩]
  rfl

set_option maxRecDepth 100000 in
set_option maxHeartbeats 32000000 in
theorem asks_A1 (s h t pos n : Int) (W : World) (_hs : I64 s) (hh : I64 h) (ht : I64 t) (hp : I64 pos) (hn : I64 n) (hm : mayR s h t = false) (hm1 : mayR s 0 0 = true) : Calls Try.prog 3 #[.agg #[.int .i64 s, .int .i64 h, .int .i64 t], .int .i64 pos, .int .i64 n] W fun e w' => e = .returned (.bool true) ∧ Below W.heap.size W w' := by
  have HX := hide (Rc.new W s h t)
  have HB := hide (below_alloc W (.cells #[.int .i64 s, .int .i64 h, .int .i64 t] 23))
  obtain ⟨c0, c1, c2, _⟩ := HX.out
  have hc := refmay_any s h t hh ht (W.alloc (.cells #[.int .i64 s, .int .i64 h, .int .i64 t] 23))
  rw [hm] at hc
  have HM1 : Hid (∀ w' : World, _) := fun w' => refmay_any s 0 0 ⟨by omega, by omega⟩ ⟨by omega, by omega⟩ w'
  rw [hm1] at HM1
  have HN : Hid (∀ w' : World, _) := fun w' => new_any s w'
  rw [hm1] at HN
  rw [if_pos rfl] at HN
  have HAT : Hid (∀ w' : World, _) := fun w' => at_no s h t pos n hh ht (.inl hm) w'
  have HC : Hid (∀ w' : World, _) := fun w' => check_any s h t hh ht w'
  rw [hm, show erB false = 1 from rfl] at HC
  have HU : Hid (∀ w' : World, _) := fun w' => used_any s h t hh ht w'
  rw [show usedR s h t = 0 by unfold usedR; rw [hm]; rfl] at HU
  have HF : Hid (∀ w' : World, _) := fun w' => free_any s h t hh ht w'
  rw [show freeR s h t = 0 by unfold freeR; rw [hm]; rfl] at HF
  have HH : Hid (∀ w' : World, _) := fun w' => holds_any s h t pos n hh ht hp hn w'
  rw [show holdsB s h t pos n = false by unfold holdsB; rw [hm]; rfl] at HH
  clear hm hm1 hp hn hh ht
  go_enter Try.func3, Try.ntmps3
  go_wp2_with fail
  refine hc.mono ?_
  rintro e w1 ⟨rfl, hb1⟩
  have HB1 := hide (HB.out.trans (hb1.mono HB.out.size))
  have HX1 := hide (HX.out.later hb1)
  clear c0 c1 c2 hc hb1
  obtain ⟨c0, c1, c2, _⟩ := HX1.out
  have hk := HN.out w1
  go_wp2_with fail
  refine hk.mono ?_
  rintro e w2 ⟨rfl, hb2⟩
  have HB2 := hide (HB1.out.trans (hb2.mono HB1.out.size))
  have HX2 := hide (HX1.out.later hb2)
  clear c0 c1 c2 hk hb2
  obtain ⟨c0, c1, c2, _⟩ := HX2.out
  have HX2' := hide (HX2.out.later (below_alloc w2 (.cells #[.int .i64 s, .int .i64 0, .int .i64 0] 23)))
  have HY2 := hide (Rc.new w2 s 0 0)
  have HB2' := hide (HB2.out.alloc HB2.out.size (.cells #[.int .i64 s, .int .i64 0, .int .i64 0] 23))
  have hk := HM1.out (w2.alloc (.cells #[.int .i64 s, .int .i64 0, .int .i64 0] 23))
  go_wp2_with fail
  refine hk.mono ?_
  rintro e w3 ⟨rfl, hb3⟩
  have HB3 := hide (HB2'.out.trans (hb3.mono HB2'.out.size))
  have HX3 := hide (HX2'.out.later hb3)
  clear c0 c1 c2
  obtain ⟨y0, y1, y2, _⟩ := HY2.out.later hb3
  obtain ⟨c0, c1, c2, _⟩ := HX3.out
  have hne0 := fun w' => ne23 s 0 0 w'
  have hk2 := HAT.out w3
  clear hk hb3
  go_wp2_with fail
  refine hk2.mono ?_
  rintro e w4 ⟨rfl, hb4⟩
  have HB4 := hide (HB3.out.trans (hb4.mono HB3.out.size))
  have HX4 := hide (HX3.out.later hb4)
  clear c0 c1 c2 y0 y1 y2 hk2 hb4 hne0
  obtain ⟨c0, c1, c2, _⟩ := HX4.out
  have hk := HC.out w4
  go_wp2_with fail
  refine hk.mono ?_
  rintro e w5 ⟨rfl, hb5⟩
  have HB5 := hide (HB4.out.trans (hb5.mono HB4.out.size))
  have HX5 := hide (HX4.out.later hb5)
  clear c0 c1 c2 hk hb5
  obtain ⟨c0, c1, c2, _⟩ := HX5.out
  have hk := HU.out w5
  go_wp2_with fail
  refine hk.mono ?_
  rintro e w6 ⟨rfl, hb6⟩
  have HB6 := hide (HB5.out.trans (hb6.mono HB5.out.size))
  have HX6 := hide (HX5.out.later hb6)
  clear c0 c1 c2 hk hb6
  obtain ⟨c0, c1, c2, _⟩ := HX6.out
  have hk := HF.out w6
  go_wp2_with fail
  refine hk.mono ?_
  rintro e w7 ⟨rfl, hb7⟩
  have HB7 := hide (HB6.out.trans (hb7.mono HB6.out.size))
  have HX7 := hide (HX6.out.later hb7)
  clear c0 c1 c2 hk hb7
  obtain ⟨c0, c1, c2, _⟩ := HX7.out
  have hk := HH.out w7
  go_wp2_with fail
  refine hk.mono ?_
  rintro e w8 ⟨rfl, hb8⟩
  have HB8 := hide (HB7.out.trans (hb8.mono HB7.out.size))
  clear c0 c1 c2 hk hb8
  have ha := awake_any w8
  go_wp2_with fail
  refine ha.mono ?_
  rintro e w9 ⟨rfl, hb9⟩
  have HB9 := hide (HB8.out.trans (hb9.mono HB8.out.size))
  clear ha hb9
  go_wp2
  go_ret
  exact ⟨rfl, HB9.out⟩

set_option maxRecDepth 100000 in
set_option maxHeartbeats 32000000 in
theorem asks_A0 (s h t pos n : Int) (W : World) (_hs : I64 s) (hh : I64 h) (ht : I64 t) (hp : I64 pos) (hn : I64 n) (hm : mayR s h t = false) (hm1 : mayR s 0 0 = false) : Calls Try.prog 3 #[.agg #[.int .i64 s, .int .i64 h, .int .i64 t], .int .i64 pos, .int .i64 n] W fun e w' => e = .returned (.bool true) ∧ Below W.heap.size W w' := by
  have HX := hide (Rc.new W s h t)
  have HB := hide (below_alloc W (.cells #[.int .i64 s, .int .i64 h, .int .i64 t] 23))
  obtain ⟨c0, c1, c2, _⟩ := HX.out
  have hc := refmay_any s h t hh ht (W.alloc (.cells #[.int .i64 s, .int .i64 h, .int .i64 t] 23))
  rw [hm] at hc
  have HM1 : Hid (∀ w' : World, _) := fun w' => refmay_any s 0 0 ⟨by omega, by omega⟩ ⟨by omega, by omega⟩ w'
  rw [hm1] at HM1
  have HN : Hid (∀ w' : World, _) := fun w' => new_any s w'
  rw [hm1] at HN
  rw [if_neg (by decide)] at HN
  have HAT : Hid (∀ w' : World, _) := fun w' => at_no s h t pos n hh ht (.inl hm) w'
  have HC : Hid (∀ w' : World, _) := fun w' => check_any s h t hh ht w'
  rw [hm, show erB false = 1 from rfl] at HC
  have HU : Hid (∀ w' : World, _) := fun w' => used_any s h t hh ht w'
  rw [show usedR s h t = 0 by unfold usedR; rw [hm]; rfl] at HU
  have HF : Hid (∀ w' : World, _) := fun w' => free_any s h t hh ht w'
  rw [show freeR s h t = 0 by unfold freeR; rw [hm]; rfl] at HF
  have HH : Hid (∀ w' : World, _) := fun w' => holds_any s h t pos n hh ht hp hn w'
  rw [show holdsB s h t pos n = false by unfold holdsB; rw [hm]; rfl] at HH
  clear hm hm1 hp hn hh ht
  go_enter Try.func3, Try.ntmps3
  go_wp2_with fail
  refine hc.mono ?_
  rintro e w1 ⟨rfl, hb1⟩
  have HB1 := hide (HB.out.trans (hb1.mono HB.out.size))
  have HX1 := hide (HX.out.later hb1)
  clear c0 c1 c2 hc hb1
  obtain ⟨c0, c1, c2, _⟩ := HX1.out
  have hk := HN.out w1
  go_wp2_with fail
  refine hk.mono ?_
  rintro e w2 ⟨rfl, hb2⟩
  have HB2 := hide (HB1.out.trans (hb2.mono HB1.out.size))
  have HX2 := hide (HX1.out.later hb2)
  clear c0 c1 c2 hk hb2
  obtain ⟨c0, c1, c2, _⟩ := HX2.out
  have HX2' := hide (HX2.out.later (below_alloc w2 (.cells #[.int .i64 0, .int .i64 0, .int .i64 0] 23)))
  have HY2 := hide (Rc.new w2 0 0 0)
  have HB2' := hide (HB2.out.alloc HB2.out.size (.cells #[.int .i64 0, .int .i64 0, .int .i64 0] 23))
  have hk := HM1.out (w2.alloc (.cells #[.int .i64 0, .int .i64 0, .int .i64 0] 23))
  go_wp2_with fail
  refine hk.mono ?_
  rintro e w3 ⟨rfl, hb3⟩
  have HB3 := hide (HB2'.out.trans (hb3.mono HB2'.out.size))
  have HX3 := hide (HX2'.out.later hb3)
  clear c0 c1 c2
  obtain ⟨y0, y1, y2, _⟩ := HY2.out.later hb3
  obtain ⟨c0, c1, c2, _⟩ := HX3.out
  have hne0 := fun w' => ne23 0 0 0 w'
  have hk2 := HAT.out w3
  clear hk hb3
  go_wp2_with fail
  refine hk2.mono ?_
  rintro e w4 ⟨rfl, hb4⟩
  have HB4 := hide (HB3.out.trans (hb4.mono HB3.out.size))
  have HX4 := hide (HX3.out.later hb4)
  clear c0 c1 c2 y0 y1 y2 hk2 hb4 hne0
  obtain ⟨c0, c1, c2, _⟩ := HX4.out
  have hk := HC.out w4
  go_wp2_with fail
  refine hk.mono ?_
  rintro e w5 ⟨rfl, hb5⟩
  have HB5 := hide (HB4.out.trans (hb5.mono HB4.out.size))
  have HX5 := hide (HX4.out.later hb5)
  clear c0 c1 c2 hk hb5
  obtain ⟨c0, c1, c2, _⟩ := HX5.out
  have hk := HU.out w5
  go_wp2_with fail
  refine hk.mono ?_
  rintro e w6 ⟨rfl, hb6⟩
  have HB6 := hide (HB5.out.trans (hb6.mono HB5.out.size))
  have HX6 := hide (HX5.out.later hb6)
  clear c0 c1 c2 hk hb6
  obtain ⟨c0, c1, c2, _⟩ := HX6.out
  have hk := HF.out w6
  go_wp2_with fail
  refine hk.mono ?_
  rintro e w7 ⟨rfl, hb7⟩
  have HB7 := hide (HB6.out.trans (hb7.mono HB6.out.size))
  have HX7 := hide (HX6.out.later hb7)
  clear c0 c1 c2 hk hb7
  obtain ⟨c0, c1, c2, _⟩ := HX7.out
  have hk := HH.out w7
  go_wp2_with fail
  refine hk.mono ?_
  rintro e w8 ⟨rfl, hb8⟩
  have HB8 := hide (HB7.out.trans (hb8.mono HB7.out.size))
  clear c0 c1 c2 hk hb8
  have ha := awake_any w8
  go_wp2_with fail
  refine ha.mono ?_
  rintro e w9 ⟨rfl, hb9⟩
  have HB9 := hide (HB8.out.trans (hb9.mono HB8.out.size))
  clear ha hb9
  go_wp2
  go_ret
  exact ⟨rfl, HB9.out⟩

end Sp
end Go.Proofs.Ytbgadcofjhgmiaa
