/- A part of the proofs about package span: what its functions answer, call by call. -/
import Derived.Test.YthbgniclplfpgaaWb
namespace Go.Proofs.Ythbgniclplfpgaa
open Go.RowKit
namespace Sp

def errSet (xs : List (Int × Int)) : Int := if setB xs then 0 else 1
theorem errSet_ok {xs : List (Int × Int)} (h : setB xs = true) : errSet xs = 0 := by simp [errSet, h]
theorem errSet_no {xs : List (Int × Int)} (h : setB xs = false) : errSet xs = 1 := by simp [errSet, h]

theorem may_ok (x : Int × Int) (w : World) (h : mayB x = true) : Calls Try.prog 13 #[.agg #[.int .i64 x.1, .int .i64 x.2]] w fun e w' => e = .returned (.int .i64 0) ∧ Below w.heap.size w w' :=
  (may_b x w (Fit.of_may h)).mono fun _ _ ⟨he, hb⟩ => ⟨by rw [he, errMay_ok h], hb⟩
theorem may_no (x : Int × Int) (w : World) (hf : Fit x) (h : mayB x = false) : Calls Try.prog 13 #[.agg #[.int .i64 x.1, .int .i64 x.2]] w fun e w' => e = .returned (.int .i64 1) ∧ Below w.heap.size w w' :=
  (may_b x w hf).mono fun _ _ ⟨he, hb⟩ => ⟨by rw [he, errMay_no h], hb⟩
/-- The cells of a box that was laid last. -/
theorem box0 {w w1 : World} {u v : Value} {t : TypeId} (hb : Below (w.alloc (.cells #[u, v] t)).heap.size (w.alloc (.cells #[u, v] t)) w1) : w1.cell? ⟨w.heap.size, 0, none⟩ = some u := (hb.cell (by simp)).trans (by simp)
theorem box1 {w w1 : World} {u v : Value} {t : TypeId} (hb : Below (w.alloc (.cells #[u, v] t)).heap.size (w.alloc (.cells #[u, v] t)) w1) : w1.cell? ⟨w.heap.size, 1, none⟩ = some v := (hb.cell (by simp)).trans (by simp)
theorem box_below {w w1 : World} {o : Obj} (hb : Below (w.alloc o).heap.size (w.alloc o) w1) : Below w.heap.size w w1 := (below_alloc w o).trans (hb.mono (by simp))

set_option maxHeartbeats 1000000 in
theorem check_any (a : Option Addr) (n cap : Nat) (xs : List (Int × Int)) (w : World) (h : Sl w a n xs) :
    Calls Try.prog 16 #[.slice a n cap] w fun e w' => e = .returned (.int .i64 (errSet xs)) ∧ Below w.heap.size w w' := by
  have hn := h.most
  go_enter Try.func16, Try.ntmps16
  go_wp2
  go_loopw [3, 8] (fun en i wr => ∃ (k : Nat) (E : Int), k ≤ n ∧ i = .int .i64 k ∧ en = .int .i64 E ∧ (k = 0 → E = -1) ∧ (∀ j, k = j + 1 → E = (nth xs j).1 + (nth xs j).2) ∧ (∀ j, j < k → okAt xs j = true) ∧ Below w.heap.size w wr) (fun _ i _ => n - (intOf i).toNat)
  case atStart => exact ⟨0, -1, Nat.zero_le _, rfl, rfl, fun _ => rfl, by intro j hj; omega, by intro j hj; omega, Below.refl _ _⟩
  case round =>
    obtain ⟨k, E, hk, rfl, rfl, hE0, hE1, hok, hb⟩ := hrel
    have hlen := h.len
    by_cases hlt : k < n
    · obtain ⟨b, off, rfl, hbl, c0, c1⟩ := (h.later hb).cells k (by omega)
      have hfit := h.fit _ (nth_mem (k := k) (by omega))
      cases hm : mayB (nth xs k) with
      | false =>
        have Hf : Hid (errSet xs = 1) := errSet_no (setB_false (k := k) (by omega) (okAt_no_may hm))
        have hr := fun W => may_no (nth xs k) W hfit hm
        clear hok hfit hm hlen h hE0 hE1
        generalize nth xs k = x at *
        go_wp2_with fail
        refine (hr _).mono ?_
        rintro e w1 ⟨rfl, hb1⟩
        go_wp2
        go_ret
        exact ⟨ret_int Hf.out.symm, hb.trans ((box_below hb1).mono hb.size)⟩
      | true =>
        have hr := fun W => may_ok (nth xs k) W hm
        have hend := fun W => end_b (nth xs k) W hm
        have hmm := mayB_iff.1 hm
        by_cases hcmp : (nth xs k).1 ≤ E
        · have hk1 : 0 < k := by
            rcases Nat.eq_zero_or_pos k with h0 | h0
            · have := hE0 h0; omega
            · exact h0
          obtain ⟨j, rfl⟩ : ∃ j, k = j + 1 := ⟨k - 1, by omega⟩
          have Hf : Hid (errSet xs = 1) := errSet_no (setB_false (k := j + 1) (by omega) (okAt_succ_no (by have := hE1 j rfl; omega)))
          clear hok hfit hm hlen h hE0 hE1
          generalize nth xs (j + 1) = x at *
          go_wp2_with fail
          refine (hr _).mono ?_
          rintro e w1 ⟨rfl, hb1⟩
          have d0 := box0 hb1
          go_wp2
          go_ret
          exact ⟨ret_int Hf.out.symm, hb.trans ((box_below hb1).mono hb.size)⟩
        · have Hok : ∀ j, j < k + 1 → okAt xs j = true := ext_lt hok (by
            rcases Nat.eq_zero_or_pos k with h0 | h0
            · exact okAt_first h0 hm
            · obtain ⟨j, rfl⟩ : ∃ j, k = j + 1 := ⟨k - 1, by omega⟩
              exact okAt_succ hm (by have := hE1 j rfl; omega))
          have hx : ∃ x, nth xs k = x := ⟨_, rfl⟩
          obtain ⟨x, hx⟩ := hx
          have Hx := hx
          have HX : Hid (nth xs k = x) := hx
          clear hok hfit hm hlen h hE0 hE1
          rw [hx] at hr hend hmm hcmp c0 c1
          clear hx Hx
          go_wp2_with fail
          refine (hr _).mono ?_
          rintro e w1 ⟨rfl, hb1⟩
          have d0 := box0 hb1
          have d1 := box1 hb1
          go_wp2_with fail
          refine (hend _).mono ?_
          rintro e w2 ⟨rfl, hb2⟩
          go_wp2
          go_roundw
          case rel => exact ⟨k + 1, x.1 + x.2, by omega, by go_num, rfl, fun h => by omega, fun j hj => by rw [← show k = j from Nat.succ.inj hj, HX.out], Hok, hb.trans (((box_below hb1).mono hb.size).trans (hb2.mono (Nat.le_trans hb.size (box_below hb1).size)))⟩
          case measure => simp [intOf]; omega
    · have Ht : Hid (errSet xs = 0) := errSet_ok (setB_true fun j hj => hok j (by omega))
      clear hok hlen h hE0 hE1
      go_wp2
      go_ret
      exact ⟨ret_int Ht.out.symm, hb⟩

end Sp
end Go.Proofs.Ythbgniclplfpgaa
