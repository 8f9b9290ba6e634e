/- A part of the proofs about package span: what its functions answer, call by call. -/
import Derived.Test.YthbgniclplfpgaaWl
import Derived.Test.YthbgniclplfpgaaWm
namespace Go.Proofs.Ythbgniclplfpgaa
open Go.RowKit
namespace Sp

set_option maxHeartbeats 2000000 in
theorem join_ok (a : Option Addr) (n cap : Nat) (xs : List (Int × Int)) (w : World) (h : Sl w a n xs) (ha : allB xs = true) (hl : xs.length ≤ 1000000) :
    Calls Try.prog 21 #[.slice a n cap] w (SetPost (fun i => wi xs i = true) w) := by
  have hn := h.most
  go_enter Try.func21, Try.ntmps21
  go_wp2
  go_loopw [10] (fun i wr => ∃ k : Nat, k ≤ n ∧ i = .int .i64 k ∧ Below w.heap.size w wr) (fun i _ => n - (intOf i).toNat)
  case atStart => exact ⟨0, Nat.zero_le _, rfl, Below.refl _ _⟩
  case round =>
    obtain ⟨k, hk, rfl, hb⟩ := hrel
    by_cases hlt : k < n
    · have HK := hide (show k < xs.length by have := h.len; omega)
      obtain ⟨b, off, rfl, hbl, c0, c1⟩ := (h.later hb).cells k HK.out
      have hr := fun W => may_ok (nth xs k) W (allB_at ha HK.out)
      generalize nth xs k = x at *
      clear h
      go_wp2_with fail
      refine (hr _).mono ?_
      rintro e w1 ⟨rfl, hb1⟩
      go_wp2
      go_roundw
      case rel => exact ⟨k + 1, by omega, by go_num, hb.trans ((box_below hb1).mono hb.size)⟩
      case measure => simp [intOf]; omega
    · have hc := fun W hW => clone_any a n cap xs W hW hl
      go_wp2_with fail
      refine (hc _ (h.later hb)).mono ?_
      rintro e w1 ⟨v, rfl, hown, hfrom, hb1⟩
      go_wp2_with fail
      refine (sort_any v xs _ hown hl).mono ?_
      rintro e w2 ⟨rfl, ys, hperm, hris, hown2, hg2⟩
      have hb2 := hb.trans ((below_grown hb1 hg2 hb1.size hfrom).mono hb.size)
      have hays := allB_perm hperm ha
      have hwp := wi_perm hperm
      have hly : ys.length = xs.length := hperm.length_eq
      obtain ⟨a', cp, rfl, hsl⟩ := hown2.sl (fun x hx => Fit.of_may (by unfold allB at hays; rw [List.all_eq_true] at hays; exact hays x hx))
      have hm := fun W hW => merge_any a' ys.length cp ys W hW hris hays
      have HW := hide hwp
      clear hwp hly hperm h hc
      go_wp2_with fail
      refine (hm _ hsl).mono ?_
      rintro e w3 ⟨rs, hjo, v3, rfl, hown3, hfrom3, hb3⟩
      go_wp2
      go_ret2
      refine ⟨v3, rs, rfl, hown3, fun k hk => Nat.le_trans hb2.size (hfrom3 k hk), hjo.set, fun i => ?_, hb2.trans (hb3.mono hb2.size)⟩
      rw [hjo.mem, upto_all, HW.out]

set_option maxHeartbeats 2000000 in
theorem join_no (a : Option Addr) (n cap : Nat) (xs : List (Int × Int)) (w : World) (h : Sl w a n xs) (ha : allB xs = false) :
    Calls Try.prog 21 #[.slice a n cap] w (ErrPost w) := by
  have hn := h.most
  go_enter Try.func21, Try.ntmps21
  go_wp2
  go_loopw [10] (fun i wr => ∃ k : Nat, k ≤ n ∧ i = .int .i64 k ∧ (∀ j, j < k → mayB (nth xs j) = true) ∧ Below w.heap.size w wr) (fun i _ => n - (intOf i).toNat)
  case atStart => exact ⟨0, Nat.zero_le _, rfl, by intro j hj; omega, Below.refl _ _⟩
  case round =>
    obtain ⟨k, hk, rfl, hok, hb⟩ := hrel
    by_cases hlt : k < n
    · have HK := hide (show k < xs.length by have := h.len; omega)
      obtain ⟨b, off, rfl, hbl, c0, c1⟩ := (h.later hb).cells k HK.out
      cases hm : mayB (nth xs k) with
      | true =>
        have hr := fun W => may_ok (nth xs k) W hm
        have Hok := ext_lt hok hm
        generalize nth xs k = x at c0 c1 hr
        clear h hok hm
        go_wp2_with fail
        refine (hr _).mono ?_
        rintro e w1 ⟨rfl, hb1⟩
        go_wp2
        go_roundw
        case rel => exact ⟨k + 1, by omega, by go_num, Hok, hb.trans ((box_below hb1).mono hb.size)⟩
        case measure => simp [intOf]; omega
      | false =>
        have hr := fun W => may_no (nth xs k) W (h.fit _ (nth_mem HK.out)) hm
        generalize nth xs k = x at c0 c1 hr
        clear h hok hm
        go_wp2_with fail
        refine (hr _).mono ?_
        rintro e w1 ⟨rfl, hb1⟩
        go_wp2
        go_ret2
        exact ⟨rfl, hb.trans ((box_below hb1).mono hb.size)⟩
    · exfalso
      have := allB_of (xs := xs) fun j hj => hok j (by have := h.len; omega)
      rw [ha] at this
      exact Bool.false_ne_true this

set_option maxHeartbeats 1000000 in
theorem meet_no (a b : Option Addr) (n m cap cap' : Nat) (xs zs : List (Int × Int)) (w : World) (hA : Sl w a n xs) (hB : Sl w b m zs) (hx : setB xs = false ∨ setB zs = false) :
    Calls Try.prog 27 #[.slice a n cap, .slice b m cap'] w (ErrPost w) := by
  have hn := hA.most
  have hn2 := hB.most
  cases hs : setB xs with
  | false =>
    have hr1 := fun W hW => check_no a n cap xs W hW hs
    clear hx hs
    go_enter Try.func27, Try.ntmps27
    go_wp2_with fail
    refine (hr1 _ hA).mono ?_
    rintro e w1 ⟨rfl, hb1⟩
    go_wp2
    go_ret2
    exact ⟨rfl, hb1⟩
  | true =>
    have hr1 := fun W hW => check_ok a n cap xs W hW hs
    have hr2 := fun W hW => check_no b m cap' zs W hW (hx.resolve_left (by rw [hs]; simp))
    clear hx hs
    go_enter Try.func27, Try.ntmps27
    go_wp2_with fail
    refine (hr1 _ hA).mono ?_
    rintro e w1 ⟨rfl, hb1⟩
    go_wp2_with fail
    refine (hr2 _ (hB.later hb1)).mono ?_
    rintro e w2 ⟨rfl, hb2⟩
    go_wp2
    go_ret2
    exact ⟨rfl, hb1.trans (hb2.mono hb1.size)⟩

end Sp
end Go.Proofs.Ythbgniclplfpgaa
