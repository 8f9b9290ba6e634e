/- A part of the proofs about package super: the document's answer, call by call. -/
import Derived.Test.YtjopjffecnflkaaDoorSj
namespace Go.Proofs.YtjopjffecnflkaaDoor
open Go.RowKit
namespace Su
open Cr
/-- A number, or -1 where it is too great. -/
def numR (x : Nat) : Int := if 1125899906842624 < x then -1 else x
theorem nAt_lt (s : ByteArray) (a k : Nat) : nAt s a k < 256 ^ k := num_lt_of (fun b hb => bs_lt _ b hb) k k (Nat.le_refl _)
theorem nAt8 (s : ByteArray) (a : Nat) : nAt s a 8 < 18446744073709551616 := Nat.lt_of_lt_of_le (nAt_lt s a 8) (Nat.le_of_eq (by decide))
theorem nAt4 (s : ByteArray) (a : Nat) : nAt s a 4 < 4294967296 := Nat.lt_of_lt_of_le (nAt_lt s a 4) (Nat.le_of_eq (by decide))
theorem rnum_any (s : ByteArray) (h : s.size = 64) (a k : Nat) (hk : 1 ≤ k ∧ k ≤ 8) (hak : a + k ≤ 64) (w : World) : Calls Tryd.prog 30 #[.string s, .int .i64 (a : Nat), .int .i64 (k : Nat)] w fun e w' => e = .returned (.int .i64 (numR (nAt s a k))) ∧ w' = w := by
  have hs : (s.extract a 64).size = 64 - a := by simp; omega
  have hc := rnumber_any (s.extract a 64) (by omega) (k : Nat) (by omega) w
  rw [fixR_ok (l := bs (s.extract a 64)) (n := (k : Nat)) ⟨by omega, by omega⟩ (by rw [bs_length]; omega), Int.toNat_natCast] at hc
  have hx := nAt_lt s a k
  have hp : 256 ^ k ≤ 256 ^ 8 := Nat.pow_le_pow_right (by omega) hk.2
  have hx2 : nAt s a k < 18446744073709551616 := Nat.lt_of_lt_of_le hx hp
  unfold numR
  unfold nAt at hx hx2 ⊢
  generalize num ((bs (s.extract a 64)).take k) = x at *
  clear hx hp
  by_cases hb : 1125899906842624 < x
  · rw [if_pos hb]
    go_enter Tryd.func30, Tryd.ntmps30
    go_wp2_with fail
    refine hc.mono ?_
    rintro e w1 ⟨rfl, hw⟩
    replace hw := hw.symm
    subst hw
    clear hc
    go_wp2
    go_ret
    exact ⟨rfl, rfl⟩
  · rw [if_neg hb]
    go_enter Tryd.func30, Tryd.ntmps30
    go_wp2_with fail
    refine hc.mono ?_
    rintro e w1 ⟨rfl, hw⟩
    replace hw := hw.symm
    subst hw
    clear hc
    go_wp2
    go_ret
    exact ⟨rfl, rfl⟩
/-- What the document's numbers are. -/
def refS (s : ByteArray) : Sb := ⟨nAt s 4 8, numR (nAt s 12 4), numR (nAt s 20 8), numR (nAt s 16 4), numR (nAt s 28 8), numR (nAt s 36 8)⟩
theorem numR_I (x : Nat) : I64 (numR x) := by
  unfold I64 numR
  split <;> omega
theorem fit_of {k : Nat} {e r z t n : Int} (h0 : k < 18446744073709551616) (h1 : I64 e) (h2 : I64 r) (h3 : I64 z) (h4 : I64 t) (h5 : I64 n) : (⟨k, e, r, z, t, n⟩ : Sb).Fit := ⟨h0, h1, h2, h3, h4, h5⟩
theorem val_mk (k : Nat) (e r z t n : Int) : (⟨k, e, r, z, t, n⟩ : Sb).val = .agg #[.int .u64 (k : Nat), .int .i64 e, .int .i64 r, .int .i64 z, .int .i64 t, .int .i64 n] := rfl
theorem refS_val (s : ByteArray) : (refS s).val = .agg #[.int .u64 (nAt s 4 8 : Nat), .int .i64 (numR (nAt s 12 4)), .int .i64 (numR (nAt s 20 8)), .int .i64 (numR (nAt s 16 4)), .int .i64 (numR (nAt s 28 8)), .int .i64 (numR (nAt s 36 8))] := by
  unfold refS
  exact val_mk (nAt s 4 8) (numR (nAt s 12 4)) (numR (nAt s 20 8)) (numR (nAt s 16 4)) (numR (nAt s 28 8)) (numR (nAt s 36 8))
theorem rkey_any (s : ByteArray) (h : s.size = 64) (w : World) : Calls Tryd.prog 29 #[.string (s.extract 4 64), .int .i64 8] w fun e w' => e = .returned (.tuple #[.int .u64 (nAt s 4 8 : Nat), .int .i64 8, .int .i64 0]) ∧ w' = w := by
  have s4 : (s.extract 4 64).size = 60 := by simp; omega
  have n0 := rnumber_any (s.extract 4 64) (by omega) (8 : Nat) (by omega) w
  rw [fixR_ok (l := bs (s.extract 4 64)) (n := (8 : Nat)) ⟨by omega, by omega⟩ (by rw [bs_length]; omega), Int.toNat_natCast] at n0
  exact n0
theorem refS_fit (s : ByteArray) : (refS s).Fit := by
  have l := nAt8 s 4
  have l1 := numR_I (nAt s 12 4)
  have l2 := numR_I (nAt s 20 8)
  have l3 := numR_I (nAt s 16 4)
  have l4 := numR_I (nAt s 28 8)
  have l5 := numR_I (nAt s 36 8)
  unfold refS
  generalize nAt s 4 8 = x at *
  generalize numR (nAt s 12 4) = x1 at *
  generalize numR (nAt s 20 8) = x2 at *
  generalize numR (nAt s 16 4) = x3 at *
  generalize numR (nAt s 28 8) = x4 at *
  generalize numR (nAt s 36 8) = x5 at *
  exact fit_of l l1 l2 l3 l4 l5
theorem num_two {x : Nat} (hx : x < 18446744073709551616) : (wrap64 (x : Int) = numR x ∧ 0 ≤ numR x ∧ numR x ≤ 1125899906842624) ∨ (numR x = -1 ∧ (wrap64 (x : Int) < 0 ∨ 1099511627776 ≤ wrap64 (x : Int))) := by
  unfold numR wrap64
  split <;> omega
theorem num_small {x : Nat} (hx : x < 4294967296) : numR x = x := by unfold numR; rw [if_neg (by omega)]
theorem ref_read (s : ByteArray) : (refS s = readS s) ∨ (chk (refS s) ≠ 0 ∧ chk (readS s) ≠ 0) := by
  have l1 := nAt4 s 12
  have l2 := nAt4 s 16
  have l3 := nAt8 s 20
  have l4 := nAt8 s 28
  have l5 := nAt8 s 36
  unfold refS readS
  rw [num_small l1, num_small l2]
  generalize nAt s 4 8 = x0 at *
  generalize nAt s 12 4 = x1 at *
  generalize nAt s 16 4 = x2 at *
  generalize nAt s 20 8 = x3 at *
  generalize nAt s 28 8 = x4 at *
  generalize nAt s 36 8 = x5 at *
  have t3 := num_two l3
  have t4 := num_two l4
  have t5 := num_two l5
  generalize wrap64 (x3 : Int) = q3 at *
  generalize wrap64 (x4 : Int) = q4 at *
  generalize wrap64 (x5 : Int) = q5 at *
  generalize numR x3 = r3 at *
  generalize numR x4 = r4 at *
  generalize numR x5 = r5 at *
  by_cases h : q3 = r3 ∧ q4 = r4 ∧ q5 = r5
  · obtain ⟨rfl, rfl, rfl⟩ := h
    exact .inl rfl
  · refine .inr ⟨fun h => ?_, fun h => ?_⟩
    · have g := chk_ok h
      simp only at g
      omega
    · have g := chk_ok h
      simp only at g
      omega
theorem dec_ref {s : ByteArray} (h : s.size = 64) (ho : str (four (more 0 (bs (s.extract 0 60)))) = s.extract 60 64) : decS s = if chk (refS s) = 0 ∧ (refS s).sec = s then (refS s, 0) else (Sb.zero, 12) := by
  have hop : opened s = (s.extract 0 (s.size - 4), 0) := opened_ok (by omega) ((cut_eq (by omega)).2 (by rw [h]; exact ho))
  unfold decS
  rw [if_neg (by omega), hop, if_neg (by simp)]
  rcases ref_read s with e | ⟨h1, h2⟩
  · rw [e]
  · rw [if_neg (fun h => h2 h.1), if_neg (fun h => h1 h.1)]
theorem dec_sum {s : ByteArray} (h : s.size = 64) (ho : ¬ str (four (more 0 (bs (s.extract 0 60)))) = s.extract 60 64) : decS s = (Sb.zero, 13) := by
  have hop : opened s = (ByteArray.empty, 13) := opened_no (by omega) (fun e => ho (by have := (cut_eq (s := s) (n := s.size - 4) (by omega)).1 e; rw [h] at this; exact this))
  unfold decS
  rw [if_neg (by omega), hop, if_pos (by simp)]
set_option maxHeartbeats 4000000 in
theorem rdecode_any (s : ByteArray) (hs : s.size ≤ 1000) (w : World) : Calls Tryd.prog 17 #[.string s] w fun e w' => e = .returned (.tuple #[(decS s).1.val, .int .i64 (decS s).2]) ∧ Below w.heap.size w w' := by
  have hX := boxC w 0 0 0 0 0 0 27
  have hB := below_alloc w (.cells #[.int .u64 (0 : Nat), .int .i64 0, .int .i64 0, .int .i64 0, .int .i64 0, .int .i64 0] 27)
  by_cases h64 : s.size = 64
  · have z60 : (s.extract 0 60).size = 60 := by simp; omega
    have z4 : (s.extract 60 64).size = 4 := by simp; omega
    have hm := rmore0 (s.extract 0 60) (by omega)
    have hml := more_lt 0 (bs (s.extract 0 60))
    have hF := fun w => rfour_any (more 0 (bs (s.extract 0 60))) hml w
    have hne := later_ne (w.alloc (.cells #[.int .u64 (0 : Nat), .int .i64 0, .int .i64 0, .int .i64 0, .int .i64 0, .int .i64 0] 27))
    by_cases ho : str (four (more 0 (bs (s.extract 0 60)))) = s.extract 60 64
    · have hd := dec_ref h64 ho
      rw [ho] at hF
      have hbe := beq_lists (rfl : s.extract 60 64 = s.extract 60 64)
      clear ho hml
      generalize more 0 (bs (s.extract 0 60)) = M at *
      have n1 := fun w => (rnum_any s h64 12 4 (by omega) (by omega) w)
      have n2 := fun w => (rnum_any s h64 16 4 (by omega) (by omega) w)
      have n3 := fun w => (rnum_any s h64 20 8 (by omega) (by omega) w)
      have n4 := fun w => (rnum_any s h64 28 8 (by omega) (by omega) w)
      have n5 := fun w => (rnum_any s h64 36 8 (by omega) (by omega) w)
      have s4 : (s.extract 4 64).size = 60 := by simp; omega
      have n0 := fun w => rkey_any s h64 w
      have l0 := nAt8 s 4
      have hfit := refS_fit s
      have hck := fun w => rchk_any (refS s) hfit w
      have hse := fun (h : chk (refS s) = 0) w => rsec_any (refS s) hfit h w
      rw [hd]
      rw [refS_val] at hck hse
      have hrv := refS_val s
      generalize chk (refS s) = c at *
      generalize hse2 : (refS s).sec = S at *
      generalize refS s = R at *
      clear hse2 hfit hd
      generalize nAt s 4 8 = key at *
      generalize numR (nAt s 12 4) = ep at *
      generalize numR (nAt s 20 8) = ser at *
      generalize numR (nAt s 16 4) = siz at *
      generalize numR (nAt s 28 8) = tail at *
      generalize numR (nAt s 36 8) = num at *
      by_cases hc0 : c = 0
      · subst hc0
        replace hse := hse rfl
        by_cases hS : S = s
        · subst hS
          rw [if_pos ⟨rfl, rfl⟩]
          simp only
          rw [hrv]
          clear hrv
          go_enter Tryd.func17, Tryd.ntmps17
          go_wp2
          refine wp_region_later (by kernel_rfl) (by kernel_rfl) ?_
          (repeat (first | go_big_quiet_skip | (go_big_quiet_want; go_big_quiet_op; go_big_quiet_on)))
          (go_big_quiet_want; go_big_quiet_op; apply Exists.intro; refine ⟨fun p => ?_, ?_⟩; (· exact later_of (hm _)); go_big_quiet_on)
          (repeat (first | go_big_quiet_skip | (go_big_quiet_want; go_big_quiet_op; go_big_quiet_on)))
          (go_big_quiet_want; go_big_quiet_op; apply Exists.intro; refine ⟨fun p => ?_, ?_⟩; (· exact later_of (hF _)); go_big_quiet_on)
          (repeat (first | go_big_quiet_skip | (go_big_quiet_want; go_big_quiet_op; go_big_quiet_on)))
          refine wpQuiet_nil ?_
          rintro _ ⟨p, rfl⟩
          have X := hX.later (p.below.mono hX.lt)
          have BB := hB.trans (p.below.mono hB.size)
          clear hm hF hX hB hne
          go_wp2_with fail
          refine (n0 _).mono ?_
          rintro e w1 ⟨rfl, hw⟩
          replace hw := hw.symm
          subst hw
          clear n0
          go_wp2_with fail
          refine (n1 _).mono ?_
          rintro e w1 ⟨rfl, hw⟩
          replace hw := hw.symm
          subst hw
          clear n1
          go_wp2_with fail
          refine (n2 _).mono ?_
          rintro e w1 ⟨rfl, hw⟩
          replace hw := hw.symm
          subst hw
          clear n2
          go_wp2_with fail
          refine (n3 _).mono ?_
          rintro e w1 ⟨rfl, hw⟩
          replace hw := hw.symm
          subst hw
          clear n3
          go_wp2_with fail
          refine (n4 _).mono ?_
          rintro e w1 ⟨rfl, hw⟩
          replace hw := hw.symm
          subst hw
          clear n4
          go_wp2_with fail
          refine (n5 _).mono ?_
          rintro e w1 ⟨rfl, hw⟩
          replace hw := hw.symm
          subst hw
          clear n5
          have Y0 := boxC p.val key ep ser siz tail num 27
          have b3 := below_alloc p.val (.cells #[.int .u64 (key : Nat), .int .i64 ep, .int .i64 ser, .int .i64 siz, .int .i64 tail, .int .i64 num] 27)
          replace X := X.later (b3.mono X.lt)
          replace BB := BB.trans (b3.mono BB.size)
          clear b3
          go_wp2_with fail
          refine (hck _).mono ?_
          rintro e w3 ⟨rfl, b4⟩
          replace X := X.later (b4.mono X.lt)
          replace BB := BB.trans (b4.mono BB.size)
          have Y2 := Y0.later (b4.mono Y0.lt)
          have g0 := Y2.c0
          have g1 := Y2.c1
          have g2 := Y2.c2
          have g3 := Y2.c3
          have g4 := Y2.c4
          have g5 := Y2.c5
          clear hck b4 Y0
          go_wp2_with fail
          refine (hse _).mono ?_
          rintro e w4 ⟨rfl, b5⟩
          replace X := X.later (b5.mono X.lt)
          replace BB := BB.trans (b5.mono BB.size)
          replace Y2 := Y2.later (b5.mono Y2.lt)
          clear g0 g1 g2 g3 g4 g5
          have g0 := Y2.c0
          have g1 := Y2.c1
          have g2 := Y2.c2
          have g3 := Y2.c3
          have g4 := Y2.c4
          have g5 := Y2.c5
          clear hse b5 Y2
          have c0 := X.c0
          have c1 := X.c1
          have c2 := X.c2
          have c3 := X.c3
          have c4 := X.c4
          have c5 := X.c5
          have f0 := X.fr 0 (by omega)
          have f1 := X.fr 1 (by omega)
          have f2 := X.fr 2 (by omega)
          have f3 := X.fr 3 (by omega)
          have f4 := X.fr 4 (by omega)
          have f5 := X.fr 5 (by omega)
          have Y := hide (X.put (key) (ep) (ser) (siz) (tail) (num))
          have YB := hide (BoxC.below X BB (by first | exact Nat.le_refl _ | exact Nat.le_succ _) (key) (ep) (ser) (siz) (tail) (num))
          clear X
          go_wp2
          have Y' := Y.out
          have d0 := Y'.c0
          have d1 := Y'.c1
          have d2 := Y'.c2
          have d3 := Y'.c3
          have d4 := Y'.c4
          have d5 := Y'.c5
          have YB' := YB.out
          clear Y Y' YB
          clear c0 c1 c2 c3 c4 c5 f0 f1 f2 f3 f4 f5 
          generalize World.setCell _ _ _ = wz at *
          refine bodyPost_ret (v := .tuple #[.agg #[.int .u64 ((key : Nat) : Int), .int .i64 (ep), .int .i64 (ser), .int .i64 (siz), .int .i64 (tail), .int .i64 (num)], .int .i64 0]) (by simp [results, Tryd.results17, go_sem, d0, d1, d2, d3, d4, d5]) rfl ⟨rfl, YB'⟩
        · rw [if_neg (fun h => hS h.2)]
          simp only [Sb.val, Sb.zero]
          have hbs := bne_lists hS
          clear hrv hS
          go_enter Tryd.func17, Tryd.ntmps17
          go_wp2
          refine wp_region_later (by kernel_rfl) (by kernel_rfl) ?_
          (repeat (first | go_big_quiet_skip | (go_big_quiet_want; go_big_quiet_op; go_big_quiet_on)))
          (go_big_quiet_want; go_big_quiet_op; apply Exists.intro; refine ⟨fun p => ?_, ?_⟩; (· exact later_of (hm _)); go_big_quiet_on)
          (repeat (first | go_big_quiet_skip | (go_big_quiet_want; go_big_quiet_op; go_big_quiet_on)))
          (go_big_quiet_want; go_big_quiet_op; apply Exists.intro; refine ⟨fun p => ?_, ?_⟩; (· exact later_of (hF _)); go_big_quiet_on)
          (repeat (first | go_big_quiet_skip | (go_big_quiet_want; go_big_quiet_op; go_big_quiet_on)))
          refine wpQuiet_nil ?_
          rintro _ ⟨p, rfl⟩
          have X := hX.later (p.below.mono hX.lt)
          have BB := hB.trans (p.below.mono hB.size)
          clear hm hF hX hB hne
          go_wp2_with fail
          refine (n0 _).mono ?_
          rintro e w1 ⟨rfl, hw⟩
          replace hw := hw.symm
          subst hw
          clear n0
          go_wp2_with fail
          refine (n1 _).mono ?_
          rintro e w1 ⟨rfl, hw⟩
          replace hw := hw.symm
          subst hw
          clear n1
          go_wp2_with fail
          refine (n2 _).mono ?_
          rintro e w1 ⟨rfl, hw⟩
          replace hw := hw.symm
          subst hw
          clear n2
          go_wp2_with fail
          refine (n3 _).mono ?_
          rintro e w1 ⟨rfl, hw⟩
          replace hw := hw.symm
          subst hw
          clear n3
          go_wp2_with fail
          refine (n4 _).mono ?_
          rintro e w1 ⟨rfl, hw⟩
          replace hw := hw.symm
          subst hw
          clear n4
          go_wp2_with fail
          refine (n5 _).mono ?_
          rintro e w1 ⟨rfl, hw⟩
          replace hw := hw.symm
          subst hw
          clear n5
          have Y0 := boxC p.val key ep ser siz tail num 27
          have b3 := below_alloc p.val (.cells #[.int .u64 (key : Nat), .int .i64 ep, .int .i64 ser, .int .i64 siz, .int .i64 tail, .int .i64 num] 27)
          replace X := X.later (b3.mono X.lt)
          replace BB := BB.trans (b3.mono BB.size)
          clear b3
          go_wp2_with fail
          refine (hck _).mono ?_
          rintro e w3 ⟨rfl, b4⟩
          replace X := X.later (b4.mono X.lt)
          replace BB := BB.trans (b4.mono BB.size)
          have Y2 := Y0.later (b4.mono Y0.lt)
          have g0 := Y2.c0
          have g1 := Y2.c1
          have g2 := Y2.c2
          have g3 := Y2.c3
          have g4 := Y2.c4
          have g5 := Y2.c5
          clear hck b4 Y0
          go_wp2_with fail
          refine (hse _).mono ?_
          rintro e w4 ⟨rfl, b5⟩
          replace X := X.later (b5.mono X.lt)
          replace BB := BB.trans (b5.mono BB.size)
          replace Y2 := Y2.later (b5.mono Y2.lt)
          clear g0 g1 g2 g3 g4 g5
          have g0 := Y2.c0
          have g1 := Y2.c1
          have g2 := Y2.c2
          have g3 := Y2.c3
          have g4 := Y2.c4
          have g5 := Y2.c5
          clear hse b5 Y2
          have c0 := X.c0
          have c1 := X.c1
          have c2 := X.c2
          have c3 := X.c3
          have c4 := X.c4
          have c5 := X.c5
          have f0 := X.fr 0 (by omega)
          have f1 := X.fr 1 (by omega)
          have f2 := X.fr 2 (by omega)
          have f3 := X.fr 3 (by omega)
          have f4 := X.fr 4 (by omega)
          have f5 := X.fr 5 (by omega)
          have Y := hide (X.put (0) (0) (0) (0) (0) (0))
          have YB := hide (BoxC.below X BB (by first | exact Nat.le_refl _ | exact Nat.le_succ _) (0) (0) (0) (0) (0) (0))
          clear X
          go_wp2
          have Y' := Y.out
          have d0 := Y'.c0
          have d1 := Y'.c1
          have d2 := Y'.c2
          have d3 := Y'.c3
          have d4 := Y'.c4
          have d5 := Y'.c5
          have YB' := YB.out
          clear Y Y' YB
          clear c0 c1 c2 c3 c4 c5 f0 f1 f2 f3 f4 f5 
          generalize World.setCell _ _ _ = wz at *
          refine bodyPost_ret (v := .tuple #[.agg #[.int .u64 ((0 : Nat) : Int), .int .i64 (0), .int .i64 (0), .int .i64 (0), .int .i64 (0), .int .i64 (0)], .int .i64 12]) (by simp [results, Tryd.results17, go_sem, d0, d1, d2, d3, d4, d5]) rfl ⟨rfl, YB'⟩
      · rw [if_neg (fun h => hc0 h.1)]
        simp only [Sb.val, Sb.zero]
        clear hse hrv
        go_enter Tryd.func17, Tryd.ntmps17
        go_wp2
        refine wp_region_later (by kernel_rfl) (by kernel_rfl) ?_
        (repeat (first | go_big_quiet_skip | (go_big_quiet_want; go_big_quiet_op; go_big_quiet_on)))
        (go_big_quiet_want; go_big_quiet_op; apply Exists.intro; refine ⟨fun p => ?_, ?_⟩; (· exact later_of (hm _)); go_big_quiet_on)
        (repeat (first | go_big_quiet_skip | (go_big_quiet_want; go_big_quiet_op; go_big_quiet_on)))
        (go_big_quiet_want; go_big_quiet_op; apply Exists.intro; refine ⟨fun p => ?_, ?_⟩; (· exact later_of (hF _)); go_big_quiet_on)
        (repeat (first | go_big_quiet_skip | (go_big_quiet_want; go_big_quiet_op; go_big_quiet_on)))
        refine wpQuiet_nil ?_
        rintro _ ⟨p, rfl⟩
        have X := hX.later (p.below.mono hX.lt)
        have BB := hB.trans (p.below.mono hB.size)
        clear hm hF hX hB hne
        go_wp2_with fail
        refine (n0 _).mono ?_
        rintro e w1 ⟨rfl, hw⟩
        replace hw := hw.symm
        subst hw
        clear n0
        go_wp2_with fail
        refine (n1 _).mono ?_
        rintro e w1 ⟨rfl, hw⟩
        replace hw := hw.symm
        subst hw
        clear n1
        go_wp2_with fail
        refine (n2 _).mono ?_
        rintro e w1 ⟨rfl, hw⟩
        replace hw := hw.symm
        subst hw
        clear n2
        go_wp2_with fail
        refine (n3 _).mono ?_
        rintro e w1 ⟨rfl, hw⟩
        replace hw := hw.symm
        subst hw
        clear n3
        go_wp2_with fail
        refine (n4 _).mono ?_
        rintro e w1 ⟨rfl, hw⟩
        replace hw := hw.symm
        subst hw
        clear n4
        go_wp2_with fail
        refine (n5 _).mono ?_
        rintro e w1 ⟨rfl, hw⟩
        replace hw := hw.symm
        subst hw
        clear n5
        have Y0 := boxC p.val key ep ser siz tail num 27
        have b3 := below_alloc p.val (.cells #[.int .u64 (key : Nat), .int .i64 ep, .int .i64 ser, .int .i64 siz, .int .i64 tail, .int .i64 num] 27)
        replace X := X.later (b3.mono X.lt)
        replace BB := BB.trans (b3.mono BB.size)
        clear b3
        go_wp2_with fail
        refine (hck _).mono ?_
        rintro e w3 ⟨rfl, b4⟩
        replace X := X.later (b4.mono X.lt)
        replace BB := BB.trans (b4.mono BB.size)
        have Y2 := Y0.later (b4.mono Y0.lt)
        have g0 := Y2.c0
        have g1 := Y2.c1
        have g2 := Y2.c2
        have g3 := Y2.c3
        have g4 := Y2.c4
        have g5 := Y2.c5
        clear hck b4 Y0
        clear Y2
        have c0 := X.c0
        have c1 := X.c1
        have c2 := X.c2
        have c3 := X.c3
        have c4 := X.c4
        have c5 := X.c5
        have f0 := X.fr 0 (by omega)
        have f1 := X.fr 1 (by omega)
        have f2 := X.fr 2 (by omega)
        have f3 := X.fr 3 (by omega)
        have f4 := X.fr 4 (by omega)
        have f5 := X.fr 5 (by omega)
        have Y := hide (X.put (0) (0) (0) (0) (0) (0))
        have YB := hide (BoxC.below X BB (by first | exact Nat.le_refl _ | exact Nat.le_succ _) (0) (0) (0) (0) (0) (0))
        clear X
        go_wp2
        have Y' := Y.out
        have d0 := Y'.c0
        have d1 := Y'.c1
        have d2 := Y'.c2
        have d3 := Y'.c3
        have d4 := Y'.c4
        have d5 := Y'.c5
        have YB' := YB.out
        clear Y Y' YB
        clear c0 c1 c2 c3 c4 c5 f0 f1 f2 f3 f4 f5 
        generalize World.setCell _ _ _ = wz at *
        refine bodyPost_ret (v := .tuple #[.agg #[.int .u64 ((0 : Nat) : Int), .int .i64 (0), .int .i64 (0), .int .i64 (0), .int .i64 (0), .int .i64 (0)], .int .i64 12]) (by simp [results, Tryd.results17, go_sem, d0, d1, d2, d3, d4, d5]) rfl ⟨rfl, YB'⟩
    · have hd := dec_sum h64 ho
      rw [hd]
      simp only [Sb.val, Sb.zero]
      have hbe := bne_lists ho
      clear ho hd
      generalize more 0 (bs (s.extract 0 60)) = M at *
      have zF : (str (four M)).size = 4 := by rw [str_size]; rfl
      generalize str (four M) = F at *
      go_enter Tryd.func17, Tryd.ntmps17
      go_wp2
      refine wp_region_later (by kernel_rfl) (by kernel_rfl) ?_
      (repeat (first | go_big_quiet_skip | (go_big_quiet_want; go_big_quiet_op; go_big_quiet_on)))
      (go_big_quiet_want; go_big_quiet_op; apply Exists.intro; refine ⟨fun p => ?_, ?_⟩; (· exact later_of (hm _)); go_big_quiet_on)
      (repeat (first | go_big_quiet_skip | (go_big_quiet_want; go_big_quiet_op; go_big_quiet_on)))
      (go_big_quiet_want; go_big_quiet_op; apply Exists.intro; refine ⟨fun p => ?_, ?_⟩; (· exact later_of (hF _)); go_big_quiet_on)
      (repeat (first | go_big_quiet_skip | (go_big_quiet_want; go_big_quiet_op; go_big_quiet_on)))
      refine wpQuiet_nil ?_
      rintro _ ⟨p, rfl⟩
      have X := hX.later (p.below.mono hX.lt)
      have BB := hB.trans (p.below.mono hB.size)
      clear hm hF hX hB hne
      have c0 := X.c0
      have c1 := X.c1
      have c2 := X.c2
      have c3 := X.c3
      have c4 := X.c4
      have c5 := X.c5
      have f0 := X.fr 0 (by omega)
      have f1 := X.fr 1 (by omega)
      have f2 := X.fr 2 (by omega)
      have f3 := X.fr 3 (by omega)
      have f4 := X.fr 4 (by omega)
      have f5 := X.fr 5 (by omega)
      have Y := hide (X.put (0) (0) (0) (0) (0) (0))
      have YB := hide (BoxC.below X BB (by first | exact Nat.le_refl _ | exact Nat.le_succ _) (0) (0) (0) (0) (0) (0))
      clear X
      go_wp2
      have Y' := Y.out
      have d0 := Y'.c0
      have d1 := Y'.c1
      have d2 := Y'.c2
      have d3 := Y'.c3
      have d4 := Y'.c4
      have d5 := Y'.c5
      have YB' := YB.out
      clear Y Y' YB
      clear c0 c1 c2 c3 c4 c5 f0 f1 f2 f3 f4 f5 
      generalize World.setCell _ _ _ = wz at *
      refine bodyPost_ret (v := .tuple #[.agg #[.int .u64 ((0 : Nat) : Int), .int .i64 (0), .int .i64 (0), .int .i64 (0), .int .i64 (0), .int .i64 (0)], .int .i64 13]) (by simp [results, Tryd.results17, go_sem, d0, d1, d2, d3, d4, d5]) rfl ⟨rfl, YB'⟩

  · have hd : decS s = (Sb.zero, 30) := by unfold decS; rw [if_pos h64]
    rw [hd]
    simp only [Sb.val, Sb.zero]
    go_enter Tryd.func17, Tryd.ntmps17
    go_wp2
    have d0 := hX.c0
    have d1 := hX.c1
    have d2 := hX.c2
    have d3 := hX.c3
    have d4 := hX.c4
    have d5 := hX.c5
    generalize World.alloc _ _ = wz at *
    refine bodyPost_ret (v := .tuple #[.agg #[.int .u64 ((0 : Nat) : Int), .int .i64 0, .int .i64 0, .int .i64 0, .int .i64 0, .int .i64 0], .int .i64 30]) (by simp [results, Tryd.results17, go_sem, d0, d1, d2, d3, d4, d5]) rfl ⟨rfl, hB⟩
end Su
end Go.Proofs.YtjopjffecnflkaaDoor
