/- The law RingTurns, where there is no room, or not enough is taken. -/
import Derived.Test.YtbgadcofjhgmiaaLd
namespace Go.Proofs.Ytbgadcofjhgmiaa
open Go.RowKit
namespace Sp

set_option maxRecDepth 100000 in
set_option maxHeartbeats 32000000 in
theorem turns_full_range (s h t n : Int) (W : World) (_hs : I64 s) (hh : I64 h) (ht : I64 t) (_hn : I64 n) (hm : mayR s h t = true) (hn0 : 0 ≤ n) (hQ : h - t < n) (hn1 : n < 1099511627776 - h) (hP : s - (h - t) < n) : Calls Try.prog 4 #[.agg #[.int .i64 s, .int .i64 h, .int .i64 t], .int .i64 n] W fun e w' => e = .returned (.bool true) ∧ Below W.heap.size W w' := by
  have HX := hide (Rc.new W s h t)
  have HB := hide (below_alloc W (.cells #[.int .i64 s, .int .i64 h, .int .i64 t] 23))
  obtain ⟨c0, c1, c2, _⟩ := HX.out
  have HPU : Hid (∀ w' : World, _) := fun w' => push_full s h t n hh ht hm hn0 hn1 hP w'
  have HPO : Hid (∀ w' : World, _) := fun w' => pop_full s h t n hh ht hm hn0 hQ w'
  have HMY : Hid (∀ w' : World, _) := fun w' => refmay_any s h t hh ht w'
  rw [hm] at HMY
  obtain ⟨m1, m2, m3, m4, m5, m6⟩ := mayR_get hm
  have hw1 : IntKind.i64.wrap (h - t) = h - t := by rw [IntKind.wrap_i64]; omega
  have hw2 : IntKind.i64.wrap (1099511627776 - h) = 1099511627776 - h := by rw [IntKind.wrap_i64]; omega
  have hw3 : IntKind.i64.wrap (s - (h - t)) = s - (h - t) := by rw [IntKind.wrap_i64]; omega
  have z1 : ¬ n < 0 := by omega
  have z2 : ¬ 1099511627776 - h ≤ n := by omega
  have z3 : s - (h - t) < n := hP
  have z4 : h - t < n := hQ
  have HMM := hide hm
  clear m1 m2 m3 m4 m5 m6 hm hP hQ hh ht hn0 hn1
  have heA := fun w' => ne23 s h t w'
  have heB := fun w' => ne23 s h t w'
  have heB2 := fun w' => eq23 s h t w'
  go_enter Try.func4, Try.ntmps4
  have hk := HPU.out (W.alloc (.cells #[.int .i64 s, .int .i64 h, .int .i64 t] 23))
  go_wp2_with fail
  refine hk.mono ?_
  rintro e w1 ⟨rfl, hb1⟩
  replace HB := hide (HB.out.trans (hb1.mono HB.out.size))
  replace HX := hide (HX.out.later hb1)
  have HA := hide (Rc.new w1 s h t)
  clear hk hb1 c0 c1 c2
  obtain ⟨c0, c1, c2, _⟩ := HX.out
  have hal := below_alloc w1 (.cells #[.int .i64 s, .int .i64 h, .int .i64 t] 23)
  replace HX := hide (HX.out.later hal)
  replace HB := hide (HB.out.trans (hal.mono HB.out.size))
  have hk := HPO.out (w1.alloc (.cells #[.int .i64 s, .int .i64 h, .int .i64 t] 23))
  clear hal
  go_wp2_with fail
  refine hk.mono ?_
  rintro e w2 ⟨rfl, hb2⟩
  replace HB := hide (HB.out.trans (hb2.mono HB.out.size))
  replace HX := hide (HX.out.later hb2)
  replace HA := hide (HA.out.later hb2)
  have HC := hide (Rc.new w2 s h t)
  clear hk hb2 c0 c1 c2
  obtain ⟨c0, c1, c2, _⟩ := HX.out
  have hal := below_alloc w2 (.cells #[.int .i64 s, .int .i64 h, .int .i64 t] 23)
  replace HX := hide (HX.out.later hal)
  replace HA := hide (HA.out.later hal)
  replace HB := hide (HB.out.trans (hal.mono HB.out.size))
  have hk := HMY.out (w2.alloc (.cells #[.int .i64 s, .int .i64 h, .int .i64 t] 23))
  clear hal
  go_wp2_with fail
  refine hk.mono ?_
  rintro e w3 ⟨rfl, hb3⟩
  replace HX := hide (HX.out.later hb3)
  replace HA := hide (HA.out.later hb3)
  replace HC := hide (HC.out.later hb3)
  replace HB := hide (HB.out.trans (hb3.mono HB.out.size))
  clear hk hb3 c0 c1 c2
  obtain ⟨c0, c1, c2, _⟩ := HX.out
  obtain ⟨d0, d1, d2, _⟩ := HA.out
  obtain ⟨k0, k1, k2, _⟩ := HC.out
  by_cases g0 : 300 < s
  case pos =>
    have ha := awake_any w3
    go_wp2_with fail
    refine ha.mono ?_
    rintro e w9 ⟨rfl, hb9⟩
    have HB9 := hide (HB.out.trans (hb9.mono HB.out.size))
    clear ha hb9
    go_wp2
    go_ret
    exact ⟨rfl, HB9.out⟩
  case neg =>
  have ha := awake_any w3
  go_wp2_with fail
  refine ha.mono ?_
  rintro e w9 ⟨rfl, hb9⟩
  have HB9 := hide (HB.out.trans (hb9.mono HB.out.size))
  clear ha hb9
  go_wp2
  go_ret
  exact ⟨rfl, HB9.out⟩

set_option maxRecDepth 100000 in
set_option maxHeartbeats 32000000 in
theorem turns_full_ok (s h t n : Int) (W : World) (_hs : I64 s) (hh : I64 h) (ht : I64 t) (_hn : I64 n) (hm : mayR s h t = true) (hn0 : 0 ≤ n) (hQ : n ≤ h - t) (hn1 : n < 1099511627776 - h) (hP : s - (h - t) < n) : Calls Try.prog 4 #[.agg #[.int .i64 s, .int .i64 h, .int .i64 t], .int .i64 n] W fun e w' => e = .returned (.bool true) ∧ Below W.heap.size W w' := by
  have HX := hide (Rc.new W s h t)
  have HB := hide (below_alloc W (.cells #[.int .i64 s, .int .i64 h, .int .i64 t] 23))
  obtain ⟨c0, c1, c2, _⟩ := HX.out
  have HPU : Hid (∀ w' : World, _) := fun w' => push_full s h t n hh ht hm hn0 hn1 hP w'
  have HPO : Hid (∀ w' : World, _) := fun w' => pop_okI s h t n hm hn0 hQ w'
  have HMY : Hid (∀ w' : World, _) := fun w' => refmay_any s h t hh ht w'
  rw [hm] at HMY
  obtain ⟨m1, m2, m3, m4, m5, m6⟩ := mayR_get hm
  have hw1 : IntKind.i64.wrap (h - t) = h - t := by rw [IntKind.wrap_i64]; omega
  have hw2 : IntKind.i64.wrap (1099511627776 - h) = 1099511627776 - h := by rw [IntKind.wrap_i64]; omega
  have hw3 : IntKind.i64.wrap (s - (h - t)) = s - (h - t) := by rw [IntKind.wrap_i64]; omega
  have hw5 : IntKind.i64.wrap (t + n) = t + n := by rw [IntKind.wrap_i64]; omega
  have HFQ := hide (sec_fitsI (p := t) (n := n) m1 m2 (by omega))
  have HRQ : Hid (∀ w' : World, _) := fun w' => refat_I s t n m1 m2 m3 (by omega) hn0 (by omega) w'
  generalize secL s.toNat t.toNat n.toNat = LQ at *
  have z1 : ¬ n < 0 := by omega
  have z2 : ¬ 1099511627776 - h ≤ n := by omega
  have z3 : s - (h - t) < n := hP
  have z4 : ¬ h - t < n := by omega
  have HMM := hide hm
  clear m1 m2 m3 m4 m5 m6 hm hP hQ hh ht hn0 hn1
  have heA := fun w' => ne23 s h t w'
  have heB := fun w' => ne23 s h (t + n) w'
  have heB2 := fun w' => eq23 s h (t + n) w'
  go_enter Try.func4, Try.ntmps4
  have hk := HPU.out (W.alloc (.cells #[.int .i64 s, .int .i64 h, .int .i64 t] 23))
  go_wp2_with fail
  refine hk.mono ?_
  rintro e w1 ⟨rfl, hb1⟩
  replace HB := hide (HB.out.trans (hb1.mono HB.out.size))
  replace HX := hide (HX.out.later hb1)
  have HA := hide (Rc.new w1 s h t)
  clear hk hb1 c0 c1 c2
  obtain ⟨c0, c1, c2, _⟩ := HX.out
  have hal := below_alloc w1 (.cells #[.int .i64 s, .int .i64 h, .int .i64 t] 23)
  replace HX := hide (HX.out.later hal)
  replace HB := hide (HB.out.trans (hal.mono HB.out.size))
  have hk := HPO.out (w1.alloc (.cells #[.int .i64 s, .int .i64 h, .int .i64 t] 23))
  clear hal
  go_wp2_with fail
  refine hk.mono ?_
  rintro e w2 ⟨v2, rfl, ho2, _, hb2⟩
  obtain ⟨a2, q2, rfl, hs2⟩ := own_slot ho2 HFQ.out
  obtain ⟨n2, hn2⟩ : ∃ n2, LQ.length = n2 := ⟨_, rfl⟩
  rw [hn2] at hs2
  rw [hn2]
  have HN2 := hide hn2
  have HS2 := hide hs2
  clear hn2 ho2 hs2
  replace HB := hide (HB.out.trans (hb2.mono HB.out.size))
  replace HX := hide (HX.out.later hb2)
  replace HA := hide (HA.out.later hb2)
  have HC := hide (Rc.new w2 s h (t + n))
  clear hk hb2 c0 c1 c2
  obtain ⟨c0, c1, c2, _⟩ := HX.out
  have hal := below_alloc w2 (.cells #[.int .i64 s, .int .i64 h, .int .i64 (t + n)] 23)
  replace HX := hide (HX.out.later hal)
  replace HA := hide (HA.out.later hal)
  replace HB := hide (HB.out.trans (hal.mono HB.out.size))
  replace HS2 : Hid (∀ w', Below (w2.alloc (.cells #[.int .i64 s, .int .i64 h, .int .i64 (t + n)] 23)).heap.size (w2.alloc (.cells #[.int .i64 s, .int .i64 h, .int .i64 (t + n)] 23)) w' → Sl w' a2 n2 LQ) := fun w' hbb => HS2.out w' (hal.trans (hbb.mono hal.size))
  have hk := HMY.out (w2.alloc (.cells #[.int .i64 s, .int .i64 h, .int .i64 (t + n)] 23))
  clear hal
  go_wp2_with fail
  refine hk.mono ?_
  rintro e w3 ⟨rfl, hb3⟩
  replace HX := hide (HX.out.later hb3)
  replace HA := hide (HA.out.later hb3)
  replace HC := hide (HC.out.later hb3)
  replace HB := hide (HB.out.trans (hb3.mono HB.out.size))
  replace HS2 : Hid (∀ w', Below w3.heap.size w3 w' → Sl w' a2 n2 LQ) := fun w' hbb => HS2.out w' (hb3.trans (hbb.mono hb3.size))
  clear hk hb3 c0 c1 c2
  obtain ⟨c0, c1, c2, _⟩ := HX.out
  obtain ⟨d0, d1, d2, _⟩ := HA.out
  obtain ⟨k0, k1, k2, _⟩ := HC.out
  by_cases g0 : 300 < s
  case pos =>
    have ha := awake_any w3
    go_wp2_with fail
    refine ha.mono ?_
    rintro e w9 ⟨rfl, hb9⟩
    have HB9 := hide (HB.out.trans (hb9.mono HB.out.size))
    clear ha hb9
    go_wp2
    go_ret
    exact ⟨rfl, HB9.out⟩
  case neg =>
  have hk := HRQ.out w3
  go_wp2_with fail
  refine hk.mono ?_
  rintro e w6 ⟨v6, rfl, ho6, _, hb6⟩
  obtain ⟨a6, q6, rfl, hs6⟩ := own_slot ho6 HFQ.out
  rw [HN2.out] at hs6
  rw [HN2.out]
  replace HX := hide (HX.out.later hb6)
  replace HA := hide (HA.out.later hb6)
  replace HC := hide (HC.out.later hb6)
  replace HB := hide (HB.out.trans (hb6.mono HB.out.size))
  replace HS2 : Hid (∀ w', Below w6.heap.size w6 w' → Sl w' a2 n2 LQ) := fun w' hbb => HS2.out w' (hb6.trans (hbb.mono hb6.size))
  have hsm := same_any a2 a6 n2 n2 q2 q6 LQ LQ w6 (HS2.out w6 (Below.refl _ _)) (hs6 w6 (Below.refl _ _))
  rw [decide_eq_true rfl] at hsm
  clear hk ho6 hb6 hs6 c0 c1 c2 d0 d1 d2 k0 k1 k2
  obtain ⟨c0, c1, c2, _⟩ := HX.out
  obtain ⟨d0, d1, d2, _⟩ := HA.out
  obtain ⟨k0, k1, k2, _⟩ := HC.out
  go_wp2_with fail
  refine hsm.mono ?_
  rintro e w7 ⟨rfl, hb7⟩
  replace HX := hide (HX.out.later hb7)
  replace HA := hide (HA.out.later hb7)
  replace HC := hide (HC.out.later hb7)
  replace HB := hide (HB.out.trans (hb7.mono HB.out.size))
  replace HS2 : Hid (∀ w', Below w7.heap.size w7 w' → Sl w' a2 n2 LQ) := fun w' hbb => HS2.out w' (hb7.trans (hbb.mono hb7.size))
  clear hsm hb7 c0 c1 c2 d0 d1 d2 k0 k1 k2
  obtain ⟨c0, c1, c2, _⟩ := HX.out
  obtain ⟨d0, d1, d2, _⟩ := HA.out
  obtain ⟨k0, k1, k2, _⟩ := HC.out
  have ha := awake_any w7
  go_wp2_with fail
  refine ha.mono ?_
  rintro e w9 ⟨rfl, hb9⟩
  have HB9 := hide (HB.out.trans (hb9.mono HB.out.size))
  clear ha hb9
  go_wp2
  go_ret
  exact ⟨rfl, HB9.out⟩

end Sp
end Go.Proofs.Ytbgadcofjhgmiaa
