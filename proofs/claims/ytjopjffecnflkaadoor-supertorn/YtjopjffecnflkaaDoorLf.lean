/- The law SuperTorn, walked. -/
import Derived.Test.YtjopjffecnflkaaDoorLe
namespace Go.Proofs.YtjopjffecnflkaaDoor
open Go.RowKit
namespace Su
open Cr
theorem follow_ser (s : Sb) (t n : Int) : (s.follow t n).ser = s.ser + 1 := rfl
/-- The one ahead of it. -/
def Sb.ahead (s : Sb) : Sb := ⟨s.key, s.ep, s.ser - 1, s.siz, s.tail, s.num⟩
theorem ahead_ok {s : Sb} (hs : s.Fit) (hc : chk s = 0) (h : 0 < s.ser) : s.ahead.Fit ∧ chk s.ahead = 0 := by
  have hk := chk_ok hc
  refine ⟨⟨hs.k, hs.e, ?_, hs.z, hs.t, hs.n⟩, chk_is ?_⟩
  · show I64 (s.ser - 1)
    unfold I64
    omega
  · unfold Sb.ahead
    simp only
    omega
theorem next_ok {s : Sb} {a b : Int} (h : (nextS s a b).2 = 0) : chk s = 0 ∧ chk (s.follow a b) = 0 ∧ nextS s a b = (s.follow a b, 0) ∧ ¬ (a < s.tail ∨ b < s.num) := by
  unfold nextS at h ⊢
  by_cases h0 : chk s = 0
  · rw [if_neg (by omega)] at h ⊢
    by_cases h1 : a < s.tail ∨ b < s.num
    · rw [if_pos h1] at h
      simp at h
    · rw [if_neg h1] at h ⊢
      by_cases h2 : chk (s.follow a b) = 0
      · rw [if_neg (by omega)]
        exact ⟨h0, h2, rfl, h1⟩
      · rw [if_pos h2] at h
        exact absurd h h2
  · rw [if_pos h0] at h
    exact absurd h h0
set_option maxHeartbeats 8000000 in
theorem superTorn_walk (s : Sb) (hs : s.Fit) (a b how : Int) (ha : I64 a) (hb : I64 b) (W : World) (T : Tab W) : Calls Tryd.prog 7 #[s.val, .agg #[.int .i64 a, .int .i64 b], .int .i64 how] W fun e w' => e = .returned (.bool true) ∧ Below W.heap.size W w' := by
  have hPl := fun w => plain_any s w
  have hRc := fun w => rchk_any s hs w
  have hN := fun w => next_any s hs a b ha hb w
  by_cases h : chk s = 0
  · rw [h] at hRc
    by_cases h2 : (nextS s a b).2 = 0
    · obtain ⟨-, hc2, hnx, -⟩ := next_ok h2
      have hf2 := follow_fit hs h ha hb
      have hk := chk_ok h
      have hk2 := chk_ok hc2
      rw [follow_ser] at hk2
      have hE1 := fun w T => encode_any s hs w T
      have hE2 := fun w T => encode_any (s.follow a b) hf2 w T
      have e1 : s.enc = s.sec := if_pos h
      have e2 : (s.follow a b).enc = (s.follow a b).sec := if_pos hc2
      have hS1 := fun w => slot_any s w
      have hS2 := fun w => slot_any (s.follow a b) w
      have z1 := sec_size s
      have z2 := sec_size (s.follow a b)
      have zz : (str (List.replicate 64 0)).size = 64 := by rw [str_size]; simp
      have pg := pick_goes hs h hf2 hc2 rfl
      have ps := fun (t : ByteArray) (hh : ¬ (decS t).2 = 0 ∨ (decS t).1.ser < s.ser) => pick_stays hs h hh
      have pk := fun x y hx hy w T => pick_any x y hx hy w T
      have dz := dec_zero
      have tz := fun (hh : (s.follow a b).ser.toNat ≠ 0) => torn_no (n := s.follow a b) zz ser_zero (by rw [follow_ser]; omega) hh
      rw [e1, h] at hE1
      rw [e2, hc2] at hE2
      rw [hnx] at hN
      rw [follow_ser] at hS2
      have fs := follow_ser s a b
      by_cases hpos : 0 < s.ser
      · obtain ⟨hfa, hca⟩ := ahead_ok hs h hpos
        have hE3 := fun w T => encode_any s.ahead hfa w T
        have e3 : s.ahead.enc = s.ahead.sec := if_pos hca
        rw [e3, hca] at hE3
        have z3 := sec_size s.ahead
        have hah : s.ahead.ser = s.ser - 1 := rfl
        have da : (decS s.ahead.sec).1.ser < s.ser := by rw [dec_sec hfa hca]; show s.ahead.ser < s.ser; omega
        have ta := torn_no (n := s.follow a b) z3 (ser_of (s := s.ahead) (by rw [hah]; omega)) (by rw [fs]; omega) (by rw [fs, hah]; omega)
        have zt : ((s.follow a b).sec.extract 0 32 ++ s.ahead.sec.extract 32 64).size = 64 := by simp [ByteArray.size_append, ByteArray.size_extract, z2, z3]
        by_cases p0 : s.ser % 2 = 0
        · have p1 : (s.ser + 1) % 2 = 1 := by omega
          rw [p0] at hS1
          rw [p1] at hS2
          by_cases h1 : how = 1
          · subst h1
            have hP := fun w T => pk s.sec (s.follow a b).sec (by omega) (by omega) w T
            rw [pg.1 p0] at hP
            exact torn_p10 s.key s.ep s.ser s.siz s.tail s.num a b (by omega) hpos s.sec (s.follow a b).sec _ s.ahead.sec z2 z1 zz z3 hPl hRc hN hE1 hE2 hS1 hS2 hP hS2 (hide rfl) hE3 W T
          · by_cases h2 : how = 2
            · subst h2
              have hP := fun w T => pk s.sec ((s.follow a b).sec.extract 0 32 ++ s.ahead.sec.extract 32 64) (by omega) (by omega) w T
              rw [(ps _ (.inl ta)).1 p0] at hP
              exact torn_p20 s.key s.ep s.ser s.siz s.tail s.num a b (by omega) hpos s.sec (s.follow a b).sec _ s.ahead.sec z2 z1 zz z3 hPl hRc hN hE1 hE2 hS1 hS2 hP hS1 (hide rfl) hE3 W T
            · have hP := fun w T => pk s.sec s.ahead.sec (by omega) (by omega) w T
              rw [(ps _ (.inr da)).1 p0] at hP
              exact torn_po0 s.key s.ep s.ser s.siz s.tail s.num a b how h1 h2 (by omega) hpos s.sec (s.follow a b).sec _ s.ahead.sec z2 z1 zz z3 hPl hRc hN hE1 hE2 hS1 hS2 hP hS1 (hide rfl) hE3 W T
        · have p0' : s.ser % 2 = 1 := by omega
          have p1 : (s.ser + 1) % 2 = 0 := by omega
          rw [p0'] at hS1
          rw [p1] at hS2
          by_cases h1 : how = 1
          · subst h1
            have hP := fun w T => pk (s.follow a b).sec s.sec (by omega) (by omega) w T
            rw [pg.2 p0'] at hP
            exact torn_p11 s.key s.ep s.ser s.siz s.tail s.num a b (by omega) hpos s.sec (s.follow a b).sec _ s.ahead.sec z2 z1 zz z3 hPl hRc hN hE1 hE2 hS1 hS2 hP hS2 (hide rfl) hE3 W T
          · by_cases h2 : how = 2
            · subst h2
              have hP := fun w T => pk ((s.follow a b).sec.extract 0 32 ++ s.ahead.sec.extract 32 64) s.sec (by omega) (by omega) w T
              rw [(ps _ (.inl ta)).2 p0'] at hP
              exact torn_p21 s.key s.ep s.ser s.siz s.tail s.num a b (by omega) hpos s.sec (s.follow a b).sec _ s.ahead.sec z2 z1 zz z3 hPl hRc hN hE1 hE2 hS1 hS2 hP hS1 (hide rfl) hE3 W T
            · have hP := fun w T => pk s.ahead.sec s.sec (by omega) (by omega) w T
              rw [(ps _ (.inr da)).2 p0'] at hP
              exact torn_po1 s.key s.ep s.ser s.siz s.tail s.num a b how h1 h2 (by omega) hpos s.sec (s.follow a b).sec _ s.ahead.sec z2 z1 zz z3 hPl hRc hN hE1 hE2 hS1 hS2 hP hS1 (hide rfl) hE3 W T
      · have p0 : s.ser % 2 = 0 := by omega
        have p1 : (s.ser + 1) % 2 = 1 := by omega
        replace tz := tz (by rw [fs]; omega)
        have zt : ((s.follow a b).sec.extract 0 32 ++ (str (List.replicate 64 0)).extract 32 64).size = 64 := by rw [ByteArray.size_append, ByteArray.size_extract, ByteArray.size_extract, z2, zz]; omega
        rw [p0] at hS1
        rw [p1] at hS2
        by_cases h1 : how = 1
        · subst h1
          have hP := fun w T => pk s.sec (s.follow a b).sec (by omega) (by omega) w T
          rw [pg.1 p0] at hP
          exact torn_z10 s.key s.ep s.ser s.siz s.tail s.num a b (by omega) hpos s.sec (s.follow a b).sec _ z2 z1 zz hPl hRc hN hE1 hE2 hS1 hS2 hP hS2 (hide rfl) W T
        · by_cases h2 : how = 2
          · subst h2
            have hP := fun w T => pk s.sec ((s.follow a b).sec.extract 0 32 ++ (str (List.replicate 64 0)).extract 32 64) (by omega) (by omega) w T
            rw [(ps _ (.inl tz)).1 p0] at hP
            exact torn_z20 s.key s.ep s.ser s.siz s.tail s.num a b (by omega) hpos s.sec (s.follow a b).sec _ z2 z1 zz hPl hRc hN hE1 hE2 hS1 hS2 hP hS1 (hide rfl) W T
          · have hP := fun w T => pk s.sec (str (List.replicate 64 0)) (by omega) (by omega) w T
            rw [(ps _ (.inl dz)).1 p0] at hP
            exact torn_zo0 s.key s.ep s.ser s.siz s.tail s.num a b how h1 h2 (by omega) hpos s.sec (s.follow a b).sec _ z2 z1 zz hPl hRc hN hE1 hE2 hS1 hS2 hP hS1 (hide rfl) W T
    · generalize nextS s a b = R at *
      obtain ⟨⟨xk, xe, xr, xz, xt, xn⟩, f⟩ := R
      simp only at h2
      clear hs ha hb h
      obtain ⟨key, ep, ser, siz, tail, num⟩ := s
      simp only [Sb.val] at hPl hRc hN ⊢
      have BB := Below.refl W.heap.size W
      have b1 := below_alloc W (.cells #[.int .u64 ((key : Nat) : Int), .int .i64 (ep), .int .i64 (ser), .int .i64 (siz), .int .i64 (tail), .int .i64 (num)] 24)
      have X : BoxC (W.alloc (.cells #[.int .u64 ((key : Nat) : Int), .int .i64 (ep), .int .i64 (ser), .int .i64 (siz), .int .i64 (tail), .int .i64 (num)] 24)) W.heap.size (key) (ep) (ser) (siz) (tail) (num) := boxC W (key) (ep) (ser) (siz) (tail) (num) 24
      replace BB := BB.trans (b1.mono BB.size)
      clear b1
      have Xc0_1 := X.c0
      have Xc1_1 := X.c1
      have Xc2_1 := X.c2
      have Xc3_1 := X.c3
      have Xc4_1 := X.c4
      have Xc5_1 := X.c5
      have b2 := below_alloc (W.alloc (.cells #[.int .u64 ((key : Nat) : Int), .int .i64 (ep), .int .i64 (ser), .int .i64 (siz), .int .i64 (tail), .int .i64 (num)] 24)) (.cells #[.int .i64 a, .int .i64 b] 49)
      have D : R2 ((W.alloc (.cells #[.int .u64 ((key : Nat) : Int), .int .i64 (ep), .int .i64 (ser), .int .i64 (siz), .int .i64 (tail), .int .i64 (num)] 24)).alloc (.cells #[.int .i64 a, .int .i64 b] 49)) (W.alloc (.cells #[.int .u64 ((key : Nat) : Int), .int .i64 (ep), .int .i64 (ser), .int .i64 (siz), .int .i64 (tail), .int .i64 (num)] 24)).heap.size (.int .i64 a) (.int .i64 b) := r2_new _ _ _ _
      simp only [World.size_alloc] at D
      replace X := X.later (b2.mono X.lt)
      replace BB := BB.trans (b2.mono BB.size)
      clear b2
      have Xc0_2 := X.c0
      have Xc1_2 := X.c1
      have Xc2_2 := X.c2
      have Xc3_2 := X.c3
      have Xc4_2 := X.c4
      have Xc5_2 := X.c5
      have Dc0_3 := D.c0
      have Dc1_3 := D.c1
      go_enter Tryd.func7, Tryd.ntmps7
      go_wp2_with fail
      refine (hPl _).mono ?_
      rintro e w3 ⟨rfl, b3⟩
      clear Xc0_2 Xc1_2 Xc2_2 Xc3_2 Xc4_2 Xc5_2
      clear Dc0_3 Dc1_3
      clear Xc0_1 Xc1_1 Xc2_1 Xc3_1 Xc4_1 Xc5_1
      replace X := X.later (b3.mono X.lt)
      replace D := D.later (b3.mono D.lt)
      replace BB := BB.trans (b3.mono BB.size)
      clear b3 
      have Xc0_4 := X.c0
      have Xc1_4 := X.c1
      have Xc2_4 := X.c2
      have Xc3_4 := X.c3
      have Xc4_4 := X.c4
      have Xc5_4 := X.c5
      have Dc0_5 := D.c0
      have Dc1_5 := D.c1
      go_wp2_with fail
      refine (hRc _).mono ?_
      rintro e w4 ⟨rfl, b4⟩
      clear Xc0_4 Xc1_4 Xc2_4 Xc3_4 Xc4_4 Xc5_4
      clear Dc0_5 Dc1_5
      replace X := X.later (b4.mono X.lt)
      replace D := D.later (b4.mono D.lt)
      replace BB := BB.trans (b4.mono BB.size)
      clear b4 
      have Xc0_6 := X.c0
      have Xc1_6 := X.c1
      have Xc2_6 := X.c2
      have Xc3_6 := X.c3
      have Xc4_6 := X.c4
      have Xc5_6 := X.c5
      have Dc0_7 := D.c0
      have Dc1_7 := D.c1
      go_wp2_with fail
      refine (hN _).mono ?_
      rintro e w5 ⟨rfl, b5⟩
      clear Xc0_6 Xc1_6 Xc2_6 Xc3_6 Xc4_6 Xc5_6
      clear Dc0_7 Dc1_7
      replace X := X.later (b5.mono X.lt)
      replace D := D.later (b5.mono D.lt)
      replace BB := BB.trans (b5.mono BB.size)
      clear b5 
      have Xc0_8 := X.c0
      have Xc1_8 := X.c1
      have Xc2_8 := X.c2
      have Xc3_8 := X.c3
      have Xc4_8 := X.c4
      have Xc5_8 := X.c5
      have Dc0_9 := D.c0
      have Dc1_9 := D.c1
      have b6 := below_alloc w5 (.cells #[.int .u64 ((xk : Nat) : Int), .int .i64 (xe), .int .i64 (xr), .int .i64 (xz), .int .i64 (xt), .int .i64 (xn)] 24)
      have Y : BoxC (w5.alloc (.cells #[.int .u64 ((xk : Nat) : Int), .int .i64 (xe), .int .i64 (xr), .int .i64 (xz), .int .i64 (xt), .int .i64 (xn)] 24)) w5.heap.size (xk) (xe) (xr) (xz) (xt) (xn) := boxC w5 (xk) (xe) (xr) (xz) (xt) (xn) 24
      replace X := X.later (b6.mono X.lt)
      replace D := D.later (b6.mono D.lt)
      replace BB := BB.trans (b6.mono BB.size)
      clear b6
      have Xc0_10 := X.c0
      have Xc1_10 := X.c1
      have Xc2_10 := X.c2
      have Xc3_10 := X.c3
      have Xc4_10 := X.c4
      have Xc5_10 := X.c5
      have Dc0_11 := D.c0
      have Dc1_11 := D.c1
      have Yc0_12 := Y.c0
      have Yc1_12 := Y.c1
      have Yc2_12 := Y.c2
      have Yc3_12 := Y.c3
      have Yc4_12 := Y.c4
      have Yc5_12 := Y.c5
      go_wp2_with fail
      refine (awake_any _ (T.later BB)).mono ?_
      rintro e w7 ⟨rfl, b7⟩
      clear Xc0_10 Xc1_10 Xc2_10 Xc3_10 Xc4_10 Xc5_10
      clear Dc0_11 Dc1_11
      clear Yc0_12 Yc1_12 Yc2_12 Yc3_12 Yc4_12 Yc5_12
      clear Xc0_8 Xc1_8 Xc2_8 Xc3_8 Xc4_8 Xc5_8 Dc0_9 Dc1_9
      replace X := X.later (b7.mono X.lt)
      replace D := D.later (b7.mono D.lt)
      replace Y := Y.later (b7.mono Y.lt)
      replace BB := BB.trans (b7.mono BB.size)
      clear b7 
      have Xc0_13 := X.c0
      have Xc1_13 := X.c1
      have Xc2_13 := X.c2
      have Xc3_13 := X.c3
      have Xc4_13 := X.c4
      have Xc5_13 := X.c5
      have Dc0_14 := D.c0
      have Dc1_14 := D.c1
      have Yc0_15 := Y.c0
      have Yc1_15 := Y.c1
      have Yc2_15 := Y.c2
      have Yc3_15 := Y.c3
      have Yc4_15 := Y.c4
      have Yc5_15 := Y.c5
      go_wp2
      go_ret
      exact ⟨rfl, BB⟩

  · generalize chk s = c at *
    clear hs ha hb hN
    obtain ⟨key, ep, ser, siz, tail, num⟩ := s
    simp only [Sb.val] at hPl hRc ⊢
    have BB := Below.refl W.heap.size W
    have b1 := below_alloc W (.cells #[.int .u64 ((key : Nat) : Int), .int .i64 (ep), .int .i64 (ser), .int .i64 (siz), .int .i64 (tail), .int .i64 (num)] 24)
    have X : BoxC (W.alloc (.cells #[.int .u64 ((key : Nat) : Int), .int .i64 (ep), .int .i64 (ser), .int .i64 (siz), .int .i64 (tail), .int .i64 (num)] 24)) W.heap.size (key) (ep) (ser) (siz) (tail) (num) := boxC W (key) (ep) (ser) (siz) (tail) (num) 24
    replace BB := BB.trans (b1.mono BB.size)
    clear b1
    have Xc0_1 := X.c0
    have Xc1_1 := X.c1
    have Xc2_1 := X.c2
    have Xc3_1 := X.c3
    have Xc4_1 := X.c4
    have Xc5_1 := X.c5
    have b2 := below_alloc (W.alloc (.cells #[.int .u64 ((key : Nat) : Int), .int .i64 (ep), .int .i64 (ser), .int .i64 (siz), .int .i64 (tail), .int .i64 (num)] 24)) (.cells #[.int .i64 a, .int .i64 b] 49)
    have D : R2 ((W.alloc (.cells #[.int .u64 ((key : Nat) : Int), .int .i64 (ep), .int .i64 (ser), .int .i64 (siz), .int .i64 (tail), .int .i64 (num)] 24)).alloc (.cells #[.int .i64 a, .int .i64 b] 49)) (W.alloc (.cells #[.int .u64 ((key : Nat) : Int), .int .i64 (ep), .int .i64 (ser), .int .i64 (siz), .int .i64 (tail), .int .i64 (num)] 24)).heap.size (.int .i64 a) (.int .i64 b) := r2_new _ _ _ _
    simp only [World.size_alloc] at D
    replace X := X.later (b2.mono X.lt)
    replace BB := BB.trans (b2.mono BB.size)
    clear b2
    have Xc0_2 := X.c0
    have Xc1_2 := X.c1
    have Xc2_2 := X.c2
    have Xc3_2 := X.c3
    have Xc4_2 := X.c4
    have Xc5_2 := X.c5
    have Dc0_3 := D.c0
    have Dc1_3 := D.c1
    go_enter Tryd.func7, Tryd.ntmps7
    go_wp2_with fail
    refine (hPl _).mono ?_
    rintro e w3 ⟨rfl, b3⟩
    clear Xc0_2 Xc1_2 Xc2_2 Xc3_2 Xc4_2 Xc5_2
    clear Dc0_3 Dc1_3
    clear Xc0_1 Xc1_1 Xc2_1 Xc3_1 Xc4_1 Xc5_1
    replace X := X.later (b3.mono X.lt)
    replace D := D.later (b3.mono D.lt)
    replace BB := BB.trans (b3.mono BB.size)
    clear b3 
    have Xc0_4 := X.c0
    have Xc1_4 := X.c1
    have Xc2_4 := X.c2
    have Xc3_4 := X.c3
    have Xc4_4 := X.c4
    have Xc5_4 := X.c5
    have Dc0_5 := D.c0
    have Dc1_5 := D.c1
    go_wp2_with fail
    refine (hRc _).mono ?_
    rintro e w4 ⟨rfl, b4⟩
    clear Xc0_4 Xc1_4 Xc2_4 Xc3_4 Xc4_4 Xc5_4
    clear Dc0_5 Dc1_5
    replace X := X.later (b4.mono X.lt)
    replace D := D.later (b4.mono D.lt)
    replace BB := BB.trans (b4.mono BB.size)
    clear b4 
    have Xc0_6 := X.c0
    have Xc1_6 := X.c1
    have Xc2_6 := X.c2
    have Xc3_6 := X.c3
    have Xc4_6 := X.c4
    have Xc5_6 := X.c5
    have Dc0_7 := D.c0
    have Dc1_7 := D.c1
    go_wp2_with fail
    refine (awake_any _ (T.later BB)).mono ?_
    rintro e w5 ⟨rfl, b5⟩
    clear Xc0_6 Xc1_6 Xc2_6 Xc3_6 Xc4_6 Xc5_6
    clear Dc0_7 Dc1_7
    replace X := X.later (b5.mono X.lt)
    replace D := D.later (b5.mono D.lt)
    replace BB := BB.trans (b5.mono BB.size)
    clear b5 
    have Xc0_8 := X.c0
    have Xc1_8 := X.c1
    have Xc2_8 := X.c2
    have Xc3_8 := X.c3
    have Xc4_8 := X.c4
    have Xc5_8 := X.c5
    have Dc0_9 := D.c0
    have Dc1_9 := D.c1
    go_wp2
    go_ret
    exact ⟨rfl, BB⟩
end Su
end Go.Proofs.YtjopjffecnflkaaDoor
