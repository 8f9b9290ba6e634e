/- A part of the proofs about package span: what its functions answer, call by call. -/
import Derived.Test.YthbgniclplfpgaaWc
import Derived.Test.YthbgniclplfpgaaPb
namespace Go.Proofs.Ythbgniclplfpgaa
open Go.RowKit
namespace Sp

theorem check_ok (a : Option Addr) (n cap : Nat) (xs : List (Int × Int)) (w : World) (h : Sl w a n xs) (hs : setB xs = true) :
    Calls Try.prog 16 #[.slice a n cap] w fun e w' => e = .returned (.int .i64 0) ∧ Below w.heap.size w w' :=
  (check_any a n cap xs w h).mono fun _ _ ⟨he, hb⟩ => ⟨by rw [he, errSet_ok hs], hb⟩
theorem check_no (a : Option Addr) (n cap : Nat) (xs : List (Int × Int)) (w : World) (h : Sl w a n xs) (hs : setB xs = false) :
    Calls Try.prog 16 #[.slice a n cap] w fun e w' => e = .returned (.int .i64 1) ∧ Below w.heap.size w w' :=
  (check_any a n cap xs w h).mono fun _ _ ⟨he, hb⟩ => ⟨by rw [he, errSet_no hs], hb⟩

def totalB (xs : List (Int × Int)) : Int := if setB xs then total xs else 0
theorem totalB_ok {xs : List (Int × Int)} (h : setB xs = true) : totalB xs = total xs := by simp [totalB, h]
theorem totalB_no {xs : List (Int × Int)} (h : setB xs = false) : totalB xs = 0 := by simp [totalB, h]

set_option maxHeartbeats 1000000 in
theorem total_any (a : Option Addr) (n cap : Nat) (xs : List (Int × Int)) (w : World) (h : Sl w a n xs) :
    Calls Try.prog 17 #[.slice a n cap] w fun e w' => e = .returned (.int .i64 (totalB xs)) ∧ Below w.heap.size w w' := by
  have hn := h.most
  cases hs : setB xs with
  | false =>
    have hr := fun W hW => check_no a n cap xs W hW hs
    have Ht : Hid (totalB xs = 0) := totalB_no hs
    clear hs
    go_enter Try.func17, Try.ntmps17
    go_wp2_with fail
    refine (hr _ h).mono ?_
    rintro e w1 ⟨rfl, hb1⟩
    go_wp2
    go_ret
    exact ⟨ret_int Ht.out.symm, hb1⟩
  | true =>
    have hr := fun W hW => check_ok a n cap xs W hW hs
    have Ht : Hid (totalB xs = total xs) := totalB_ok hs
    go_enter Try.func17, Try.ntmps17
    go_wp2_with fail
    refine (hr _ h).mono ?_
    rintro e w1 ⟨rfl, hb1⟩
    go_wp2
    go_loopw [3, 11] (fun t i wr => ∃ (k : Nat), k ≤ n ∧ i = .int .i64 k ∧ t = .int .i64 (sumTo xs k) ∧ Below w.heap.size w wr) (fun _ i _ => n - (intOf i).toNat)
    case atStart => exact ⟨0, Nat.zero_le _, rfl, rfl, hb1⟩
    case round =>
      obtain ⟨k, hk, rfl, rfl, hb⟩ := hrel
      have hlen := h.len
      by_cases hlt : k < n
      · obtain ⟨b, off, rfl, hbl, c0, c1⟩ := (h.later hb).cells k (by omega)
        have hsb := sumTo_bd hs k (by omega)
        have hm := mayB_iff.1 (okAt_may (setB_at hs k (by omega)))
        have HS : Hid (sumTo xs (k + 1) = sumTo xs k + (nth xs k).2) := rfl
        clear hlen h hr hs hb1
        generalize nth xs k = x at *
        go_wp2
        go_roundw
        case rel => exact ⟨k + 1, by omega, by go_num, by rw [HS.out], hb.trans ((below_alloc _ _).mono hb.size)⟩
        case measure => simp [intOf]; omega
      · have HL : Hid (k = xs.length) := by show k = xs.length; omega
        clear hlen h hs hr
        go_wp2
        go_ret
        exact ⟨ret_int (by rw [Ht.out, HL.out]; rfl), hb⟩

set_option maxHeartbeats 1000000 in
theorem place_any (a : Option Addr) (n cap : Nat) (xs : List (Int × Int)) (i : Int) (w : World) (h : Sl w a n xs) (hs : setB xs = true) :
    Calls Try.prog 32 #[.slice a n cap, .int .i64 i] w fun e w' => e = .returned (.int .i64 (placeN xs i)) ∧ Below w.heap.size w w' := by
  have hn := h.most
  go_enter Try.func32, Try.ntmps32
  go_wp2
  go_step3
  go_wp2
  go_step3
  go_wp2
  go_loopw [5, 6] (fun l g wr => ∃ lo hi : Nat, lo ≤ hi ∧ hi ≤ n ∧ l = .int .i64 lo ∧ g = .int .i64 hi ∧ (∀ j, j < lo → (nth xs j).1 + (nth xs j).2 ≤ i) ∧ (∀ j, hi ≤ j → j < xs.length → i < (nth xs j).1 + (nth xs j).2) ∧ Below w.heap.size w wr) (fun l g _ => (intOf g - intOf l).toNat)
  case atStart => exact ⟨0, n, Nat.zero_le _, Nat.le_refl _, rfl, rfl, by intro j hj; omega, by intro j h1 h2; have := h.len; omega, Below.refl _ _⟩
  case round =>
    obtain ⟨lo, hi, h1, h2, rfl, rfl, h3, h4, hb⟩ := hrel
    have hlen := h.len
    by_cases he : lo = hi
    · have Hp : Hid ((placeN xs i : Int) = lo) := by show (placeN xs i : Int) = lo; rw [placeN_eq (k := lo) (by omega) h3 (fun j hj => h4 j (by omega))]
      subst he
      clear hs h3 h4 hlen h
      go_wp2
      rw [Exit.noGoto_ret]
      go_ret
      exact ⟨ret_int Hp.out.symm, hb⟩
    · have hbe : ((lo : Int) == (hi : Int)) = false := by simp; omega
      obtain ⟨m, hm1, hm2, hm⟩ : ∃ m : Nat, lo ≤ m ∧ m < hi ∧ (lo : Int) + ((hi : Int) - (lo : Int)) / 2 = (m : Int) := ⟨lo + (hi - lo) / 2, by omega, by omega, by omega⟩
      obtain ⟨b, off, rfl, hbl, c0, c1⟩ := (h.later hb).cells m (by omega)
      have hend := fun W => end_b (nth xs m) W (okAt_may (setB_at hs m (by omega)))
      by_cases hc : (nth xs m).1 + (nth xs m).2 ≤ i
      · have H3 : ∀ j, j < m + 1 → (nth xs j).1 + (nth xs j).2 ≤ i := by
          intro j hj
          rcases Nat.lt_or_ge j m with hjm | hjm
          · have := set_lt' hs hjm (by omega); have := mayB_iff.1 (okAt_may (setB_at hs m (by omega))); omega
          · obtain rfl : j = m := by omega
            exact hc
        clear h3 hs hlen h
        generalize nth xs m = x at *
        go_wp2_with fail
        refine (hend _).mono ?_
        rintro e w1 ⟨rfl, hb1⟩
        go_wp2
        go_roundw
        case rel => exact ⟨m + 1, hi, by omega, by omega, by go_num, rfl, H3, h4, hb.trans (hb1.mono hb.size)⟩
        case measure => simp [intOf]; omega
      · have H4 : ∀ j, m ≤ j → j < xs.length → i < (nth xs j).1 + (nth xs j).2 := by
          intro j hj hj'
          rcases Nat.lt_or_ge m j with hjm | hjm
          · have := set_lt' hs hjm (by omega); have := mayB_iff.1 (okAt_may (setB_at hs j (by omega))); omega
          · obtain rfl : j = m := by omega
            omega
        clear h4 hs hlen h
        generalize nth xs m = x at *
        go_wp2_with fail
        refine (hend _).mono ?_
        rintro e w1 ⟨rfl, hb1⟩
        go_wp2
        go_roundw
        case rel => exact ⟨lo, m, by omega, by omega, rfl, rfl, h3, H4, hb.trans (hb1.mono hb.size)⟩
        case measure => simp [intOf]; omega

def hasB (xs : List (Int × Int)) (i : Int) : Bool := setB xs && wi xs i
theorem hasB_no {xs : List (Int × Int)} {i : Int} (h : setB xs = false) : hasB xs i = false := by simp [hasB, h]
theorem hasB_out {xs : List (Int × Int)} {i : Int} (h : setB xs = true) (hp : placeN xs i = xs.length) : hasB xs i = false := by
  simp only [hasB, h, Bool.true_and]
  exact wi_false fun k hk hh => by have := placeN_lt h (k := k) (i := i) (by omega); omega
theorem hasB_at {xs : List (Int × Int)} {i : Int} (h : setB xs = true) (hp : placeN xs i < xs.length) : hasB xs i = decide ((nth xs (placeN xs i)).1 ≤ i) := by
  simp only [hasB, h, Bool.true_and]
  have hge := placeN_ge h hp
  by_cases hc : (nth xs (placeN xs i)).1 ≤ i
  · rw [wi_true hp ⟨hc, hge⟩]; simp [hc]
  · rw [wi_false fun k hk hh => ?_]
    · simp [hc]
    · rcases Nat.lt_or_ge k (placeN xs i) with h1 | h1
      · have := placeN_lt h h1; omega
      · rcases Nat.lt_or_ge (placeN xs i) k with h2 | h2
        · have := set_lt' h h2 hk; have := mayB_iff.1 (okAt_may (setB_at h (placeN xs i) hp)); omega
        · rw [show k = placeN xs i by omega] at hh; omega

set_option maxHeartbeats 1000000 in
theorem has_any (a : Option Addr) (n cap : Nat) (xs : List (Int × Int)) (i : Int) (w : World) (h : Sl w a n xs) :
    Calls Try.prog 18 #[.slice a n cap, .int .i64 i] w fun e w' => e = .returned (.bool (hasB xs i)) ∧ Below w.heap.size w w' := by
  have hn := h.most
  cases hs : setB xs with
  | false =>
    have hr := fun W hW => check_no a n cap xs W hW hs
    have Ht : Hid (hasB xs i = false) := hasB_no hs
    clear hs
    go_enter Try.func18, Try.ntmps18
    go_wp2_with fail
    refine (hr _ h).mono ?_
    rintro e w1 ⟨rfl, hb1⟩
    go_wp2
    go_ret
    exact ⟨ret_bool Ht.out.symm, hb1⟩
  | true =>
    have hr := fun W hW => check_ok a n cap xs W hW hs
    have hp := fun W hW => place_any a n cap xs i W hW hs
    have hple := placeN_le xs i
    have HL : Hid (n = xs.length) := h.len
    have hlen := h.len
    by_cases hin : placeN xs i < n
    · have Ht : Hid (hasB xs i = decide ((nth xs (placeN xs i)).1 ≤ i)) := hasB_at hs (by omega)
      obtain ⟨b, off, rfl, _⟩ := h.cells (placeN xs i) (by omega)
      clear hs hlen
      go_enter Try.func18, Try.ntmps18
      go_wp2_with fail
      refine (hr _ h).mono ?_
      rintro e w1 ⟨rfl, hb1⟩
      go_wp2_with fail
      refine (hp _ (h.later hb1)).mono ?_
      rintro e w2 ⟨rfl, hb2⟩
      have hb := hb1.trans (hb2.mono hb1.size)
      obtain ⟨b', off', he, hbl, c0, c1⟩ := (h.later hb).cells (placeN xs i) (by have := HL.out; omega)
      simp only [Option.some.injEq, Addr.mk.injEq, and_true] at he
      obtain ⟨rfl, rfl⟩ := he
      clear hp hr h hb1 hb2
      generalize nth xs (placeN xs i) = x at *
      generalize placeN xs i = q at *
      go_wp2
      go_ret
      exact ⟨ret_bool (by rw [Ht.out]), hb⟩
    · have Ht : Hid (hasB xs i = false) := hasB_out hs (by omega)
      clear hs hlen
      go_enter Try.func18, Try.ntmps18
      go_wp2_with fail
      refine (hr _ h).mono ?_
      rintro e w1 ⟨rfl, hb1⟩
      go_wp2_with fail
      refine (hp _ (h.later hb1)).mono ?_
      rintro e w2 ⟨rfl, hb2⟩
      have hb := hb1.trans (hb2.mono hb1.size)
      clear hp hr h hb1 hb2
      generalize placeN xs i = q at *
      go_wp2
      go_ret
      exact ⟨ret_bool Ht.out.symm, hb⟩

end Sp
end Go.Proofs.Ythbgniclplfpgaa
