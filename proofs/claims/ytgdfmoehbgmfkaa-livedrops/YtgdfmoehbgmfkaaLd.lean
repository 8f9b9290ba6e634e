/- Which part of a row is live, as a float; how two parts are compared. -/
import Derived.Test.YtgdfmoehbgmfkaaLb
import Derived.Test.YtgdfmoehbgmfkaaMg
import Derived.Laws.FloatArith
import Derived.WalkLawsBesides
import Derived.BigQuiet
import Derived.Deep.RegionWith
namespace Go.Proofs.Ytgdfmoehbgmfkaa
open Go.RowKit
namespace Li
open Wi
open Go.Sort (grow grow_grow alloc_eq_grow)
def pw (t l : Int) : Nat := partW l.toNat t.toNat
theorem mayR_get {s t l : Int} (h : mayR s t l = true) : 1 ≤ s ∧ s < 1099511627776 ∧ 0 ≤ t ∧ t ≤ 65536 ∧ 0 ≤ l ∧ l ≤ t := by
  unfold mayR at h
  simp only [Bool.and_eq_true, decide_eq_true_eq] at h
  omega
theorem nearest_int (n : Nat) : FloatKind.f64.nearest (n : Int) = Ieee.double.nearest false n 0 := by
  have h0 : decide ((n : Int) < 0) = false := decide_eq_false (by omega)
  unfold FloatKind.nearest
  rw [h0, Int.natAbs_natCast]
  rfl
theorem run_conv (n : Nat) (w : World) : (convert 3 57 (.int .i64 (n : Int))).run Try.prog w = .ok (.float .f64 (Ieee.double.nearest false n 0)) w := by
  rw [← nearest_int]
  simp [convert, run_underlying Try.underlying3, run_underlying Try.underlying57, Conv.intToFloat, Result.andThen]
set_option maxHeartbeats 1000000 in
theorem part_any (s t l : Int) (h1 : 0 ≤ l) (h2 : l ≤ t) (h3 : t ≤ 65536) (w : World) : Calls Try.prog 26 #[.agg #[.int .i64 s, .int .i64 t, .int .i64 l]] w fun e w' => e = .returned (.float .f64 (pw t l)) ∧ w' = w.alloc (.cells #[.int .i64 s, .int .i64 t, .int .i64 l] 58) := by
  obtain ⟨t, rfl⟩ : ∃ k : Nat, t = (k : Int) := ⟨t.toNat, by omega⟩
  obtain ⟨l, rfl⟩ : ∃ k : Nat, l = (k : Int) := ⟨l.toNat, by omega⟩
  have hpw : Hid (pw (t : Int) (l : Int) = partW l t) := rfl
  rw [hpw.out]
  by_cases h0 : t = 0
  · subst h0
    have e0 : partW l 0 = 4607182418800017408 := if_pos rfl
    rw [e0]
    clear h1 h2 h3 hpw e0
    go_enter Try.func26, Try.ntmps26
    go_wp2
    go_ret
    exact ⟨rfl, rfl⟩
  · have hd := div_part l t (by omega) (by omega) (by omega)
    have hq : ∀ w, (binOp .quo 57 (.float .f64 (Ieee.double.nearest false l 0)) (.float .f64 (Ieee.double.nearest false t 0))).run Try.prog w = .ok (.float .f64 (partW l t)) w := fun w => run_float_arith w .quo 57 .f64 _ _ _ hd
    have hc1 := run_conv l
    have hc2 := run_conv t
    have ht0 : decide ((t : Int) = 0) = false := decide_eq_false (by omega)
    have ht1 : ¬ (t : Int) = 0 := by omega
    generalize partW l t = pp at *
    generalize Ieee.double.nearest false l 0 = f1 at *
    generalize Ieee.double.nearest false t 0 = f2 at *
    clear hd hpw h1 h2 h3 h0
    go_enter Try.func26, Try.ntmps26
    go_wp2
    go_ret
    exact ⟨rfl, rfl⟩
def ordI : Ordering → Int
  | .lt => -1
  | .eq => 0
  | .gt => 1
theorem isNaN_any (x : Nat) (hx : FloatKind.f64.format.order x x = some .eq) (w : World) : Calls Try.prog 61 #[.float .f64 x] w fun e w' => e = .returned (.bool false) ∧ w' = w := by
  go_enter Try.func61, Try.ntmps61
  go_wp2
  go_ret
  exact ⟨by simp, rfl⟩
theorem cmpF_any (x y : Nat) (o : Ordering) (hx : FloatKind.f64.format.order x x = some .eq) (hy : FloatKind.f64.format.order y y = some .eq) (hxy : FloatKind.f64.format.order x y = some o) (w : World) :
    Calls Try.prog 48 #[.float .f64 x, .float .f64 y] w fun e w' => e = .returned (.int .i64 (ordI o)) ∧ w' = w := by
  have h1 := fun w => isNaN_any x hx w
  have h2 := fun w => isNaN_any y hy w
  clear hx hy
  cases o
  all_goals
    go_enter Try.func48, Try.ntmps48
    go_wp2_with (go_at_call 61; first | (refine (h1 _).mono ?_; rintro e w' ⟨rfl, rfl⟩; clear h1) | (refine (h2 _).mono ?_; rintro e w' ⟨rfl, rfl⟩; clear h2))
  all_goals go_ret
  all_goals exact ⟨rfl, rfl⟩

theorem pw_order {t l t' l' : Int} (h1 : 0 ≤ l) (h2 : l ≤ t) (h3 : t ≤ 65536) (h4 : 0 < t) (h1' : 0 ≤ l') (h2' : l' ≤ t') (h3' : t' ≤ 65536) (h4' : 0 < t') : FloatKind.f64.format.order (pw t l) (pw t' l') = some (ordN (l * t') (l' * t)) := by
  obtain ⟨t, rfl⟩ : ∃ k : Nat, t = (k : Int) := ⟨t.toNat, by omega⟩
  obtain ⟨l, rfl⟩ : ∃ k : Nat, l = (k : Int) := ⟨l.toNat, by omega⟩
  obtain ⟨t', rfl⟩ : ∃ k : Nat, t' = (k : Int) := ⟨t'.toNat, by omega⟩
  obtain ⟨l', rfl⟩ : ∃ k : Nat, l' = (k : Int) := ⟨l'.toNat, by omega⟩
  have := part_order l t l' t' (by omega) (by omega) (by omega) (by omega) (by omega) (by omega)
  rw [Int.natCast_mul, Int.natCast_mul] at this
  exact this
theorem ordI_N (x y : Int) : ordI (ordN x y) = Lib.compareInt x y := by
  unfold ordN Lib.compareInt
  by_cases h1 : x < y
  · rw [if_pos h1, if_pos h1]; rfl
  · rw [if_neg h1, if_neg h1]
    by_cases h2 : x = y
    · rw [if_pos h2, if_neg (by omega)]; rfl
    · rw [if_neg h2, if_pos (by omega)]; rfl
theorem gr_refl (W : World) : ∃ q os', W = grow (W.drewN q) os' := ⟨0, #[], by simp [World.drewN]⟩
theorem gr_alloc {W w : World} {o : Obj} (h : ∃ q os', w = grow (W.drewN q) os') : ∃ q os', w.alloc o = grow (W.drewN q) os' := by
  obtain ⟨q, os, rfl⟩ := h
  exact ⟨q, _, by rw [alloc_eq_grow, grow_grow]⟩
theorem gr_drew {W w : World} (h : ∃ q os', w = grow (W.drewN q) os') : ∃ q os', w.drew = grow (W.drewN q) os' := by
  obtain ⟨q, os, rfl⟩ := h
  exact ⟨q + 1, os, rfl⟩
theorem gr_drewN {W w : World} {n : Nat} (h : ∃ q os', w = grow (W.drewN q) os') : ∃ q os', w.drewN n = grow (W.drewN q) os' := by
  obtain ⟨q, os, rfl⟩ := h
  exact ⟨q + n, os, by simp [World.drewN, grow, Nat.add_assoc]⟩
def Gd (_s t l : Int) : Prop := 0 ≤ l ∧ l ≤ t ∧ t ≤ 65536
theorem part_gd (s t l : Int) (h : Gd s t l) (w : World) : Calls Try.prog 26 #[.agg #[.int .i64 s, .int .i64 t, .int .i64 l]] w fun e w' => e = .returned (.float .f64 (pw t l)) ∧ w' = w.alloc (.cells #[.int .i64 s, .int .i64 t, .int .i64 l] 58) := part_any s t l h.1 h.2.1 h.2.2 w
set_option maxHeartbeats 8000000 in
set_option maxRecDepth 100000 in
theorem closure47 (s t l s' t' l' : Int) (h1 : 0 ≤ l) (h2 : l ≤ t) (h3 : t ≤ 65536) (h4 : 0 < t) (h1' : 0 ≤ l') (h2' : l' ≤ t') (h3' : t' ≤ 65536) (h4' : 0 < t') (W : World) :
    Calls Try.prog 47 #[.agg #[.int .i64 s, .int .i64 t, .int .i64 l], .agg #[.int .i64 s', .int .i64 t', .int .i64 l']] W fun e w' => e = .returned (.int .i64 (Lib.compareInt (l * t') (l' * t))) ∧ ∃ q os', w' = grow (W.drewN q) os' := by
  rw [← ordI_N]
  have G1 : Gd s t l := ⟨h1, h2, h3⟩
  have G2 : Gd s' t' l' := ⟨h1', h2', h3'⟩
  have ho := pw_order h1 h2 h3 h4 h1' h2' h3' h4'
  have hox := pw_order h1 h2 h3 h4 h1 h2 h3 h4
  have hoy := pw_order h1' h2' h3' h4' h1' h2' h3' h4'
  rw [ordN_eq rfl] at hox hoy
  have hc := fun w => cmpF_any (pw t l) (pw t' l') _ hox hoy ho w
  generalize ordI (ordN (l * t') (l' * t)) = r at *
  clear ho hox hoy h1 h2 h3 h4 h1' h2' h3' h4'
  go_enter Try.func47, Try.ntmps47
  go_wp2_with fail
  go_region_with (first
    | (go_at_call 26; refine (part_gd _ _ _ (by first | exact G1 | exact G2) _).mono ?_; rintro e w' ⟨rfl, rfl⟩)
    | (go_at_call 48; refine (hc _).mono ?_; rintro e w' ⟨rfl, rfl⟩))
  all_goals go_wp2
  all_goals go_ret
  all_goals refine ⟨rfl, ?_⟩
  all_goals repeat' (first | exact gr_refl _ | apply gr_alloc | apply gr_drew | apply gr_drewN)
end Li
end Go.Proofs.Ytgdfmoehbgmfkaa
