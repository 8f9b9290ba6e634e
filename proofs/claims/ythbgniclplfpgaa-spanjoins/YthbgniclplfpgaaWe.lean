/- A part of the proofs about package span: what its functions answer, call by call. -/
import Derived.Test.YthbgniclplfpgaaWd
namespace Go.Proofs.Ythbgniclplfpgaa
open Go.RowKit
namespace Sp

set_option maxHeartbeats 1000000 in
theorem within_any (a : Option Addr) (n cap : Nat) (xs : List (Int × Int)) (i : Int) (w : World) (h : Sl w a n xs) (hs : allB xs = true) (hi : i ≤ 9223372036854775807) :
    Calls Try.prog 19 #[.slice a n cap, .int .i64 i] w fun e w' => e = .returned (.bool (wi xs i)) ∧ Below w.heap.size w w' := by
  have hn := h.most
  go_enter Try.func19, Try.ntmps19
  go_wp2
  go_loopw [5] (fun c wr => ∃ k : Nat, k ≤ n ∧ c = .int .i64 k ∧ (∀ j, j < k → ¬ ((nth xs j).1 ≤ i ∧ i < (nth xs j).1 + (nth xs j).2)) ∧ Below w.heap.size w wr) (fun c _ => n - (intOf c).toNat)
  case atStart => exact ⟨0, Nat.zero_le _, rfl, by intro j hj; omega, Below.refl _ _⟩
  case round =>
    obtain ⟨k, hk, rfl, hok, hb⟩ := hrel
    have hlen := h.len
    by_cases hlt : k < n
    · obtain ⟨b, off, rfl, hbl, c0, c1⟩ := (h.later hb).cells k (by omega)
      have hm := mayB_iff.1 (allB_at hs (k := k) (by omega))
      have C0 := lcell hbl c0
      have C1 := lcell hbl c1
      have hne := later_ne wr
      by_cases g1 : (nth xs k).1 ≤ i
      · by_cases g2 : i - (nth xs k).1 < (nth xs k).2
        · have Hf : Hid (wi xs i = true) := wi_true (k := k) (by omega) ⟨g1, by omega⟩
          clear c0 c1 hok hlen h hs
          generalize nth xs k = x at *
          go_wp2
          refine wp_region_later (by kernel_rfl) (by kernel_rfl) ?_
          (repeat (first | go_big_quiet_skip | (go_big_quiet_want; go_big_quiet_op; go_big_quiet_on)))
          refine wpQuiet_nil ?_
          rintro _ ⟨p, rfl⟩
          go_wp2
          go_ret
          exact ⟨ret_bool Hf.out.symm, hb.trans (p.below.mono hb.size)⟩
        · have Hok := ext_lt hok (by omega)
          clear c0 c1 hok hlen h hs
          generalize nth xs k = x at C0 C1 g1 g2 hm
          go_wp2
          refine wp_region_later (by kernel_rfl) (by kernel_rfl) ?_
          (repeat (first | go_big_quiet_skip | (go_big_quiet_want; go_big_quiet_op; go_big_quiet_on)))
          refine wpQuiet_nil ?_
          rintro _ ⟨p, rfl⟩
          go_wp2
          go_roundw
          case rel => exact ⟨k + 1, by omega, by go_num, Hok, hb.trans (p.below.mono hb.size)⟩
          case measure => simp [intOf]; omega
      · have Hok := ext_lt hok (by omega)
        have g1' : decide ((nth xs k).1 ≤ i) = false := by simp; omega
        clear c0 c1 hok hlen h hs g1
        generalize nth xs k = x at C0 C1 g1' hm
        go_wp2
        refine wp_region_later (by kernel_rfl) (by kernel_rfl) ?_
        (repeat (first | go_big_quiet_skip | (go_big_quiet_want; go_big_quiet_op; go_big_quiet_on)))
        refine wpQuiet_nil ?_
        rintro _ ⟨p, rfl⟩
        go_wp2
        go_roundw
        case rel => exact ⟨k + 1, by omega, by go_num, Hok, hb.trans (p.below.mono hb.size)⟩
        case measure => simp [intOf]; omega
    · have Ht : Hid (wi xs i = false) := wi_false fun j hj => hok j (by omega)
      clear hok hlen h
      go_wp2
      go_ret
      exact ⟨ret_bool Ht.out.symm, hb⟩

set_option maxHeartbeats 1000000 in
theorem all_any (a : Option Addr) (n cap : Nat) (xs : List (Int × Int)) (w : World) (h : Sl w a n xs) :
    Calls Try.prog 22 #[.slice a n cap] w fun e w' => e = .returned (.bool (allB xs)) ∧ Below w.heap.size w w' := by
  have hn := h.most
  go_enter Try.func22, Try.ntmps22
  go_wp2
  go_loopw [3] (fun c wr => ∃ k : Nat, k ≤ n ∧ c = .int .i64 k ∧ (∀ j, j < k → mayB (nth xs j) = true) ∧ Below w.heap.size w wr) (fun c _ => n - (intOf c).toNat)
  case atStart => exact ⟨0, Nat.zero_le _, rfl, by intro j hj; omega, Below.refl _ _⟩
  case round =>
    obtain ⟨k, hk, rfl, hok, hb⟩ := hrel
    have hlen := h.len
    by_cases hlt : k < n
    · obtain ⟨b, off, rfl, hbl, c0, c1⟩ := (h.later hb).cells k (by omega)
      have hr := fun W => rmay_b (nth xs k) W (h.fit _ (nth_mem (k := k) (by omega)))
      cases hm : mayB (nth xs k) with
      | true =>
        have Hok := ext_lt hok hm
        rw [hm] at hr
        clear hok hlen h hm
        generalize nth xs k = x at c0 c1 hr
        go_wp2_with fail
        refine (hr _).mono ?_
        rintro e w1 ⟨rfl, hb1⟩
        go_wp2
        go_roundw
        case rel => exact ⟨k + 1, by omega, by go_num, Hok, hb.trans (hb1.mono hb.size)⟩
        case measure => simp [intOf]; omega
      | false =>
        have Hf : Hid (allB xs = false) := allB_no (k := k) (by omega) hm
        rw [hm] at hr
        clear hok hlen h hm
        generalize nth xs k = x at c0 c1 hr
        go_wp2_with fail
        refine (hr _).mono ?_
        rintro e w1 ⟨rfl, hb1⟩
        go_wp2
        go_ret
        exact ⟨ret_bool Hf.out.symm, hb.trans (hb1.mono hb.size)⟩
    · have Ht : Hid (allB xs = true) := allB_of fun j hj => hok j (by omega)
      clear hok hlen h
      go_wp2
      go_ret
      exact ⟨ret_bool Ht.out.symm, hb⟩

/-- None that may be ends beyond the sector 400, and there are no more than forty. -/
def fewB (xs : List (Int × Int)) : Bool := (xs.all fun x => !(mayB x && decide (400 < x.1 + x.2))) && decide (xs.length ≤ 40)
theorem fewB_no {xs : List (Int × Int)} {k : Nat} (hk : k < xs.length) (hm : mayB (nth xs k) = true) (h : 400 < (nth xs k).1 + (nth xs k).2) : fewB xs = false := by
  have : (xs.all fun x => !(mayB x && decide (400 < x.1 + x.2))) = false := by
    rw [List.all_eq_false]; exact ⟨_, nth_mem hk, by simp [hm, h]⟩
  unfold fewB; rw [this]; rfl
theorem fewB_ok {xs : List (Int × Int)} (h : ∀ k, k < xs.length → ¬ (mayB (nth xs k) = true ∧ 400 < (nth xs k).1 + (nth xs k).2)) : fewB xs = decide (xs.length ≤ 40) := by
  have : (xs.all fun x => !(mayB x && decide (400 < x.1 + x.2))) = true := by
    rw [List.all_eq_true]; intro x hx
    obtain ⟨k, hk, rfl⟩ := List.getElem_of_mem hx
    have := h k hk
    rw [nth_eq hk] at this
    simp only [Bool.not_eq_true', Bool.and_eq_false_iff, decide_eq_false_iff_not]
    by_cases hm : mayB xs[k] = true
    · right; exact fun h' => this ⟨hm, h'⟩
    · left; simpa using hm
  unfold fewB; rw [this]; rfl

set_option maxHeartbeats 1000000 in
theorem few_any (a : Option Addr) (n cap : Nat) (xs : List (Int × Int)) (w : World) (h : Sl w a n xs) :
    Calls Try.prog 20 #[.slice a n cap] w fun e w' => e = .returned (.bool (fewB xs)) ∧ Below w.heap.size w w' := by
  have hn := h.most
  go_enter Try.func20, Try.ntmps20
  go_wp2
  go_loopw [3] (fun c wr => ∃ k : Nat, k ≤ n ∧ c = .int .i64 k ∧ (∀ j, j < k → ¬ (mayB (nth xs j) = true ∧ 400 < (nth xs j).1 + (nth xs j).2)) ∧ Below w.heap.size w wr) (fun c _ => n - (intOf c).toNat)
  case atStart => exact ⟨0, Nat.zero_le _, rfl, by intro j hj; omega, Below.refl _ _⟩
  case round =>
    obtain ⟨k, hk, rfl, hok, hb⟩ := hrel
    have hlen := h.len
    by_cases hlt : k < n
    · obtain ⟨b, off, rfl, hbl, c0, c1⟩ := (h.later hb).cells k (by omega)
      have hr : ∀ p : Later wr, _ := fun p => rmay_b (nth xs k) p.val (h.fit _ (nth_mem (k := k) (by omega)))
      have C0 := lcell hbl c0
      have C1 := lcell hbl c1
      have hne := later_ne wr
      cases hm : mayB (nth xs k) with
      | false =>
        have Hok := ext_lt hok (by rw [hm]; simp)
        rw [hm] at hr
        clear hok hlen h hm c0 c1
        generalize nth xs k = x at C0 C1 hr
        go_wp2
        refine wp_region_later (by kernel_rfl) (by kernel_rfl) ?_
        (repeat (first | go_big_quiet_skip | (go_big_quiet_want; go_big_quiet_op; go_big_quiet_on)))
        (go_big_quiet_want; go_big_quiet_op; apply Exists.intro; refine ⟨fun p => ?_, ?_⟩; (· exact later_of (hr p)); go_big_quiet_on)
        (repeat (first | go_big_quiet_skip | (go_big_quiet_want; go_big_quiet_op; go_big_quiet_on)))
        refine wpQuiet_nil ?_
        rintro _ ⟨p, rfl⟩
        go_wp2
        go_roundw
        case rel => exact ⟨k + 1, by omega, by go_num, Hok, hb.trans (p.below.mono hb.size)⟩
        case measure => simp [intOf]; omega
      | true =>
        have hmm := mayB_iff.1 hm
        by_cases g1 : 400 < (nth xs k).1 + (nth xs k).2
        · have Hf : Hid (fewB xs = false) := fewB_no (k := k) (by omega) hm g1
          rw [hm] at hr
          clear hok hlen h hm c0 c1
          generalize nth xs k = x at C0 C1 hr hmm g1
          go_wp2
          refine wp_region_later (by kernel_rfl) (by kernel_rfl) ?_
          (repeat (first | go_big_quiet_skip | (go_big_quiet_want; go_big_quiet_op; go_big_quiet_on)))
          (go_big_quiet_want; go_big_quiet_op; apply Exists.intro; refine ⟨fun p => ?_, ?_⟩; (· exact later_of (hr p)); go_big_quiet_on)
          (repeat (first | go_big_quiet_skip | (go_big_quiet_want; go_big_quiet_op; go_big_quiet_on)))
          refine wpQuiet_nil ?_
          rintro _ ⟨p, rfl⟩
          go_wp2
          go_ret
          exact ⟨ret_bool Hf.out.symm, hb.trans (p.below.mono hb.size)⟩
        · have Hok := ext_lt hok (by omega)
          rw [hm] at hr
          clear hok hlen h hm c0 c1
          generalize nth xs k = x at C0 C1 hr hmm g1
          go_wp2
          refine wp_region_later (by kernel_rfl) (by kernel_rfl) ?_
          (repeat (first | go_big_quiet_skip | (go_big_quiet_want; go_big_quiet_op; go_big_quiet_on)))
          (go_big_quiet_want; go_big_quiet_op; apply Exists.intro; refine ⟨fun p => ?_, ?_⟩; (· exact later_of (hr p)); go_big_quiet_on)
          (repeat (first | go_big_quiet_skip | (go_big_quiet_want; go_big_quiet_op; go_big_quiet_on)))
          refine wpQuiet_nil ?_
          rintro _ ⟨p, rfl⟩
          go_wp2
          go_roundw
          case rel => exact ⟨k + 1, by omega, by go_num, Hok, hb.trans (p.below.mono hb.size)⟩
          case measure => simp [intOf]; omega
    · have Ht : Hid (fewB xs = decide (n ≤ 40)) := by show _ = _; rw [fewB_ok fun j hj => hok j (by omega), hlen]
      clear hok hlen h
      go_wp2
      go_ret
      exact ⟨ret_bool (by rw [Ht.out]; exact decide_eq_decide.2 (by omega)), hb⟩

end Sp
end Go.Proofs.Ythbgniclplfpgaa
