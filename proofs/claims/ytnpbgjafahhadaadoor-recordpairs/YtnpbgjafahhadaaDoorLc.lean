/- The law RecordPairs, walked. -/
import Derived.Test.YtnpbgjafahhadaaDoorLb
namespace Go.Proofs.YtnpbgjafahhadaaDoor
open Go.RowKit
namespace Re
open Cr
theorem extract_right (S rest : ByteArray) : (S ++ rest).extract S.size (S.size + rest.size) = rest := by
  apply bs_inj
  rw [bs_extract, bs_append, ← bs_length, List.drop_left, ← bs_length rest, Nat.add_sub_cancel_left, List.take_length]
set_option maxHeartbeats 8000000 in
set_option maxRecDepth 20000 in
theorem recordPairs_walk (ep nu ki : Int) (a : Option Addr) (n cap : Nat) (xs : List (Int × Int)) (da tx : ByteArray) (ep2 nu2 ki2 : Int) (a2 : Option Addr) (n2 cap2 : Nat) (ys : List (Int × Int)) (da2 tx2 : ByteArray) (W : World) (T : Tab W) (hS : Sl W a n xs) (hS2 : Sl W a2 n2 ys) (ht1 : tx.size ≤ 9223372036854775807) (hd1 : da.size ≤ 9223372036854775807) (ht2 : tx2.size ≤ 9223372036854775807) (hd2 : da2.size ≤ 9223372036854775807) : Calls Tryd.prog 8 #[.agg #[.int .i64 ep, .int .i64 nu, .int .i64 ki, .slice a n cap, .string da, .string tx], .agg #[.int .i64 ep2, .int .i64 nu2, .int .i64 ki2, .slice a2 n2 cap2, .string da2, .string tx2]] W fun e w' => e = .returned (.bool true) ∧ Below W.heap.size W w' := by
  have hFe1 : ∀ (w : World), _ := fun w => few_rec_any ep nu ki a n cap xs da tx w hS.len hS.most ht1 hd1
  have hPl1 : ∀ (w : World), _ := fun w => plain_any ep nu ki a n cap da tx w
  have hCk1 : ∀ (w : World) (h : Sl w a n xs), _ := fun w h => rcheck_any ep nu ki a n cap xs da tx w h ht1 hd1
  have hFe2 : ∀ (w : World), _ := fun w => few_rec_any ep2 nu2 ki2 a2 n2 cap2 ys da2 tx2 w hS2.len hS2.most ht2 hd2
  have hPl2 : ∀ (w : World), _ := fun w => plain_any ep2 nu2 ki2 a2 n2 cap2 da2 tx2 w
  have hCk2 : ∀ (w : World) (h : Sl w a2 n2 ys), _ := fun w h => rcheck_any ep2 nu2 ki2 a2 n2 cap2 ys da2 tx2 w h ht2 hd2
  cases hf1 : fewB ⟨ep, nu, ki, xs, da, tx⟩ with
  | false =>
    rw [hf1] at hFe1
    clear hf1 hPl1 hCk1 hPl2 hCk2 hFe2
    go_enter Tryd.func8, Tryd.ntmps8
    have kh1 := below_alloc W (.cells #[.int .i64 ep, .int .i64 nu, .int .i64 ki, .slice a n cap, .string da, .string tx] 24)
    replace hS := hS.later kh1
    replace hS2 := hS2.later kh1
    have kB1 := kh1
    have kT1 := T.later kh1
    have X := boxR W (ep) (nu) (ki) (.slice a n cap) (da) (tx) 24
    generalize kW1 : W.alloc (.cells #[.int .i64 ep, .int .i64 nu, .int .i64 ki, .slice a n cap, .string da, .string tx] 24) = kw1 at *
    clear kh1
    have Xf0_2 := X.c0
    have Xf1_2 := X.c1
    have Xf2_2 := X.c2
    have Xf3_2 := X.c3
    have Xf4_2 := X.c4
    have Xf5_2 := X.c5
    have kh3 := below_alloc kw1 (.cells #[.int .i64 ep2, .int .i64 nu2, .int .i64 ki2, .slice a2 n2 cap2, .string da2, .string tx2] 24)
    replace X := X.later (kh3.mono X.lt)
    replace hS := hS.later kh3
    replace hS2 := hS2.later kh3
    have kB3 := kB1.trans (kh3.mono kB1.size)
    clear kB1
    have kT3 := kT1.later kh3
    clear kT1
    have X2 := boxR kw1 (ep2) (nu2) (ki2) (.slice a2 n2 cap2) (da2) (tx2) 24
    generalize kW3 : kw1.alloc (.cells #[.int .i64 ep2, .int .i64 nu2, .int .i64 ki2, .slice a2 n2 cap2, .string da2, .string tx2] 24) = kw3 at *
    clear kh3
    clear Xf0_2 Xf1_2 Xf2_2 Xf3_2 Xf4_2 Xf5_2
    have Xf0_4 := X.c0
    have Xf1_4 := X.c1
    have Xf2_4 := X.c2
    have Xf3_4 := X.c3
    have Xf4_4 := X.c4
    have Xf5_4 := X.c5
    have X2f0_5 := X2.c0
    have X2f1_5 := X2.c1
    have X2f2_5 := X2.c2
    have X2f3_5 := X2.c3
    have X2f4_5 := X2.c4
    have X2f5_5 := X2.c5
    go_wp2_with fail
    refine (hFe1 _).mono ?_
    rintro e kw6 ⟨rfl, kh6⟩
    clear Xf0_4 Xf1_4 Xf2_4 Xf3_4 Xf4_4 Xf5_4 X2f0_5 X2f1_5 X2f2_5 X2f3_5 X2f4_5 X2f5_5 kW1 kW3
    replace X := X.later (kh6.mono X.lt)
    replace X2 := X2.later (kh6.mono X2.lt)
    replace hS := hS.later kh6
    replace hS2 := hS2.later kh6
    have kB6 := kB3.trans (kh6.mono kB3.size)
    clear kB3
    have kT6 := kT3.later kh6
    clear kT3
    clear kh6 hFe1
    have Xf0_7 := X.c0
    have Xf1_7 := X.c1
    have Xf2_7 := X.c2
    have Xf3_7 := X.c3
    have Xf4_7 := X.c4
    have Xf5_7 := X.c5
    have X2f0_8 := X2.c0
    have X2f1_8 := X2.c1
    have X2f2_8 := X2.c2
    have X2f3_8 := X2.c3
    have X2f4_8 := X2.c4
    have X2f5_8 := X2.c5
    go_wp2_with fail
    refine (awake_any _ kT6).mono ?_
    rintro e kw9 ⟨rfl, kh9⟩
    clear Xf0_7 Xf1_7 Xf2_7 Xf3_7 Xf4_7 Xf5_7 X2f0_8 X2f1_8 X2f2_8 X2f3_8 X2f4_8 X2f5_8
    replace X := X.later (kh9.mono X.lt)
    replace X2 := X2.later (kh9.mono X2.lt)
    replace hS := hS.later kh9
    replace hS2 := hS2.later kh9
    have kB9 := kB6.trans (kh9.mono kB6.size)
    clear kB6
    have kT9 := kT6.later kh9
    clear kT6
    clear kh9 
    have Xf0_10 := X.c0
    have Xf1_10 := X.c1
    have Xf2_10 := X.c2
    have Xf3_10 := X.c3
    have Xf4_10 := X.c4
    have Xf5_10 := X.c5
    have X2f0_11 := X2.c0
    have X2f1_11 := X2.c1
    have X2f2_11 := X2.c2
    have X2f3_11 := X2.c3
    have X2f4_11 := X2.c4
    have X2f5_11 := X2.c5
    go_wp2
    go_ret
    exact ⟨rfl, kB9⟩
  | true =>
    rw [hf1] at hFe1
    obtain ⟨fd1, ft1, fs1⟩ := few_sizes hf1
    simp only at fd1 ft1 fs1
    cases hf2 : fewB ⟨ep2, nu2, ki2, ys, da2, tx2⟩ with
    | false =>
      rw [hf2] at hFe2
      clear hf2 hPl1 hCk1 hPl2 hCk2
      go_enter Tryd.func8, Tryd.ntmps8
      have kh1 := below_alloc W (.cells #[.int .i64 ep, .int .i64 nu, .int .i64 ki, .slice a n cap, .string da, .string tx] 24)
      replace hS := hS.later kh1
      replace hS2 := hS2.later kh1
      have kB1 := kh1
      have kT1 := T.later kh1
      have X := boxR W (ep) (nu) (ki) (.slice a n cap) (da) (tx) 24
      generalize kW1 : W.alloc (.cells #[.int .i64 ep, .int .i64 nu, .int .i64 ki, .slice a n cap, .string da, .string tx] 24) = kw1 at *
      clear kh1
      have Xf0_2 := X.c0
      have Xf1_2 := X.c1
      have Xf2_2 := X.c2
      have Xf3_2 := X.c3
      have Xf4_2 := X.c4
      have Xf5_2 := X.c5
      have kh3 := below_alloc kw1 (.cells #[.int .i64 ep2, .int .i64 nu2, .int .i64 ki2, .slice a2 n2 cap2, .string da2, .string tx2] 24)
      replace X := X.later (kh3.mono X.lt)
      replace hS := hS.later kh3
      replace hS2 := hS2.later kh3
      have kB3 := kB1.trans (kh3.mono kB1.size)
      clear kB1
      have kT3 := kT1.later kh3
      clear kT1
      have X2 := boxR kw1 (ep2) (nu2) (ki2) (.slice a2 n2 cap2) (da2) (tx2) 24
      generalize kW3 : kw1.alloc (.cells #[.int .i64 ep2, .int .i64 nu2, .int .i64 ki2, .slice a2 n2 cap2, .string da2, .string tx2] 24) = kw3 at *
      clear kh3
      clear Xf0_2 Xf1_2 Xf2_2 Xf3_2 Xf4_2 Xf5_2
      have Xf0_4 := X.c0
      have Xf1_4 := X.c1
      have Xf2_4 := X.c2
      have Xf3_4 := X.c3
      have Xf4_4 := X.c4
      have Xf5_4 := X.c5
      have X2f0_5 := X2.c0
      have X2f1_5 := X2.c1
      have X2f2_5 := X2.c2
      have X2f3_5 := X2.c3
      have X2f4_5 := X2.c4
      have X2f5_5 := X2.c5
      go_wp2_with fail
      refine (hFe1 _).mono ?_
      rintro e kw6 ⟨rfl, kh6⟩
      clear Xf0_4 Xf1_4 Xf2_4 Xf3_4 Xf4_4 Xf5_4 X2f0_5 X2f1_5 X2f2_5 X2f3_5 X2f4_5 X2f5_5 kW1 kW3
      replace X := X.later (kh6.mono X.lt)
      replace X2 := X2.later (kh6.mono X2.lt)
      replace hS := hS.later kh6
      replace hS2 := hS2.later kh6
      have kB6 := kB3.trans (kh6.mono kB3.size)
      clear kB3
      have kT6 := kT3.later kh6
      clear kT3
      clear kh6 hFe1
      have Xf0_7 := X.c0
      have Xf1_7 := X.c1
      have Xf2_7 := X.c2
      have Xf3_7 := X.c3
      have Xf4_7 := X.c4
      have Xf5_7 := X.c5
      have X2f0_8 := X2.c0
      have X2f1_8 := X2.c1
      have X2f2_8 := X2.c2
      have X2f3_8 := X2.c3
      have X2f4_8 := X2.c4
      have X2f5_8 := X2.c5
      go_wp2_with fail
      refine (hFe2 _).mono ?_
      rintro e kw9 ⟨rfl, kh9⟩
      clear Xf0_7 Xf1_7 Xf2_7 Xf3_7 Xf4_7 Xf5_7 X2f0_8 X2f1_8 X2f2_8 X2f3_8 X2f4_8 X2f5_8
      replace X := X.later (kh9.mono X.lt)
      replace X2 := X2.later (kh9.mono X2.lt)
      replace hS := hS.later kh9
      replace hS2 := hS2.later kh9
      have kB9 := kB6.trans (kh9.mono kB6.size)
      clear kB6
      have kT9 := kT6.later kh9
      clear kT6
      clear kh9 hFe2
      have Xf0_10 := X.c0
      have Xf1_10 := X.c1
      have Xf2_10 := X.c2
      have Xf3_10 := X.c3
      have Xf4_10 := X.c4
      have Xf5_10 := X.c5
      have X2f0_11 := X2.c0
      have X2f1_11 := X2.c1
      have X2f2_11 := X2.c2
      have X2f3_11 := X2.c3
      have X2f4_11 := X2.c4
      have X2f5_11 := X2.c5
      go_wp2_with fail
      refine (awake_any _ kT9).mono ?_
      rintro e kw12 ⟨rfl, kh12⟩
      clear Xf0_10 Xf1_10 Xf2_10 Xf3_10 Xf4_10 Xf5_10 X2f0_11 X2f1_11 X2f2_11 X2f3_11 X2f4_11 X2f5_11
      replace X := X.later (kh12.mono X.lt)
      replace X2 := X2.later (kh12.mono X2.lt)
      replace hS := hS.later kh12
      replace hS2 := hS2.later kh12
      have kB12 := kB9.trans (kh12.mono kB9.size)
      clear kB9
      have kT12 := kT9.later kh12
      clear kT9
      clear kh12 
      have Xf0_13 := X.c0
      have Xf1_13 := X.c1
      have Xf2_13 := X.c2
      have Xf3_13 := X.c3
      have Xf4_13 := X.c4
      have Xf5_13 := X.c5
      have X2f0_14 := X2.c0
      have X2f1_14 := X2.c1
      have X2f2_14 := X2.c2
      have X2f3_14 := X2.c3
      have X2f4_14 := X2.c4
      have X2f5_14 := X2.c5
      go_wp2
      go_ret
      exact ⟨rfl, kB12⟩
    | true =>
      rw [hf2] at hFe2
      obtain ⟨fd2, ft2, fs2⟩ := few_sizes hf2
      simp only at fd2 ft2 fs2
      by_cases hc1 : chk ⟨ep, nu, ki, xs, da, tx⟩ = 0
      · by_cases hc2 : chk ⟨ep2, nu2, ki2, ys, da2, tx2⟩ = 0
        · skip
          have hEn1 : ∀ (w : World) (T : Tab w) (h : Sl w a n xs), _ := fun w T h => encode_rec_any ep nu ki a n cap xs da tx w T h ht1 hd1
          have hSi1 : ∀ (w : World) (T : Tab w) (h : Sl w a n xs), _ := fun w T h => size_rec_any ep nu ki a n cap xs da tx w T h ht1 hd1
          have hSm1 : ∀ (w : World) (b : Option Addr) (c : Nat) (h : Sl w a n xs) (h2 : Sl w b xs.length xs), _ := fun w b c h h2 => same_rec_any ep nu ki b xs.length c xs da tx ep nu ki a n cap xs da tx w h2 h
          rw [sameB_iff.2 rfl] at hSm1
          obtain ⟨z11, z12, z13⟩ := enc_sizes hc1
          obtain ⟨q13, q14⟩ := nd_need (chk_head hc1)
          have h191 := body_hn (chk_head hc1) (more 0 (bs da))
          have h11 := (hn_le (body ⟨ep, nu, ki, xs, da, tx⟩ (more 0 (bs da))).length).2.2
          rw [encR, if_pos hc1, hc1] at hEn1
          rw [z13] at hSi1
          rw [hc1] at hCk1
          simp only at z11 z12 q13 q14 h191 h11
          have hEn2 : ∀ (w : World) (T : Tab w) (h : Sl w a2 n2 ys), _ := fun w T h => encode_rec_any ep2 nu2 ki2 a2 n2 cap2 ys da2 tx2 w T h ht2 hd2
          have hSi2 : ∀ (w : World) (T : Tab w) (h : Sl w a2 n2 ys), _ := fun w T h => size_rec_any ep2 nu2 ki2 a2 n2 cap2 ys da2 tx2 w T h ht2 hd2
          have hSm2 : ∀ (w : World) (b : Option Addr) (c : Nat) (h : Sl w a2 n2 ys) (h2 : Sl w b ys.length ys), _ := fun w b c h h2 => same_rec_any ep2 nu2 ki2 b ys.length c ys da2 tx2 ep2 nu2 ki2 a2 n2 cap2 ys da2 tx2 w h2 h
          rw [sameB_iff.2 rfl] at hSm2
          obtain ⟨z21, z22, z23⟩ := enc_sizes hc2
          obtain ⟨q23, q24⟩ := nd_need (chk_head hc2)
          have h192 := body_hn (chk_head hc2) (more 0 (bs da2))
          have h12 := (hn_le (body ⟨ep2, nu2, ki2, ys, da2, tx2⟩ (more 0 (bs da2))).length).2.2
          rw [encR, if_pos hc2, hc2] at hEn2
          rw [z23] at hSi2
          rw [hc2] at hCk2
          simp only at z21 z22 q23 q24 h192 h12
          have q1 := dR_enc hc1 (enc ⟨ep2, nu2, ki2, ys, da2, tx2⟩)
          have q2 := dR_enc hc2 ⟨#[]⟩
          have q5 := rH_enc hc2 ⟨#[]⟩
          simp only at q1 q2 q5
          have hze : ∀ s : ByteArray, s ++ ⟨#[]⟩ = s := fun s => ByteArray.append_empty
          rw [hze] at q2 q5
          have hfit := hS.fit
          have hfit2 := hS2.fit
          have hsz : (enc ⟨ep, nu, ki, xs, da, tx⟩ ++ enc ⟨ep2, nu2, ki2, ys, da2, tx2⟩).size ≤ 1000000 := by
            rw [ByteArray.size_append]
            omega
          have hsz2 : (enc ⟨ep2, nu2, ki2, ys, da2, tx2⟩).size ≤ 1000000 := by omega
          have hDe1 : ∀ (w : World) (T : Tab w), _ := fun w T => decode_rec_any (enc ⟨ep, nu, ki, xs, da, tx⟩ ++ enc ⟨ep2, nu2, ki2, ys, da2, tx2⟩) hsz w T
          have hDe2 : ∀ (w : World) (T : Tab w), _ := fun w T => decode_rec_any (enc ⟨ep2, nu2, ki2, ys, da2, tx2⟩) hsz2 w T
          have hHe2 : ∀ (w : World) (T : Tab w), _ := fun w T => head_rec_any (enc ⟨ep2, nu2, ki2, ys, da2, tx2⟩) hsz2 w T
          rw [q1] at hDe1
          rw [q2] at hDe2
          rw [q5] at hHe2
          simp only [need_bare] at hHe2
          rw [← q23] at hHe2
          simp only [bare] at hHe2
          have hx := extract_right (enc ⟨ep, nu, ki, xs, da, tx⟩) (enc ⟨ep2, nu2, ki2, ys, da2, tx2⟩)
          generalize hn (body ⟨ep, nu, ki, xs, da, tx⟩ (more 0 (bs da))).length = H1 at *
          generalize nd ⟨ep, nu, ki, xs, da, tx⟩ = D1 at *
          generalize hE1 : enc ⟨ep, nu, ki, xs, da, tx⟩ = E1 at *
          generalize hn (body ⟨ep2, nu2, ki2, ys, da2, tx2⟩ (more 0 (bs da2))).length = H2 at *
          generalize nd ⟨ep2, nu2, ki2, ys, da2, tx2⟩ = D2 at *
          generalize hE2 : enc ⟨ep2, nu2, ki2, ys, da2, tx2⟩ = E2 at *
          have e1 : ((64 : Int) * ((H1 + D1 : Nat) : Int) == (E1.size : Int)) = true := by rw [beq_iff_eq, z12]; omega
          have e1b : ((64 : Int) * ((H1 + D1 : Nat) : Int) != (E1.size : Int)) = false := by rw [bne, e1]; rfl
          have e2 : ((64 : Int) * ((H2 + D2 : Nat) : Int) == (E2.size : Int)) = true := by rw [beq_iff_eq, z22]; omega
          have e3 : (((H2 + D2 : Nat) : Int) == (H2 : Int) + (D2 : Int)) = true := by rw [beq_iff_eq]; omega
          have e4 : ((64 : Int) * (D2 : Int) == (da2.size : Int)) = true := by rw [beq_iff_eq, z21]; omega
          have hb1 : H1 + D1 ≤ 600 := by omega
          have hb2 : H2 + D2 ≤ 600 := by omega
          have hbH : H2 ≤ 600 := by omega
          have hbD : D2 ≤ 600 := by omega
          have hb3 : E1.size ≤ 38400 := by omega
          have hb4 : E2.size ≤ 38400 := by omega
          have hb5 : E1.size = 64 * (H1 + D1) := z12
          have hH2 : (1 : Int) ≤ (H2 : Int) := by omega
          have hH3 : ¬ ((H2 : Int) < 1) := by omega
          replace hx : (E1 ++ E2).extract (64 * (H1 + D1)) (E1.size + E2.size) = E2 := by rw [← hb5]; exact hx
          have hsA : (E1 ++ E2).size = E1.size + E2.size := by simp
          generalize hN1 : H1 + D1 = N1 at *
          generalize hN2 : H2 + D2 = N2 at *
          have g0 : ¬ ((E1.size : Int) + (E2.size : Int)) < (64 : Int) * (N1 : Int) := by omega
          have g1 : ¬ ((E1.size + E2.size : Nat) : Int) < (64 : Int) * (N1 : Int) := by omega
          have g2 : (64 : Int) * (N1 : Int) ≤ ((E1.size + E2.size : Nat) : Int) := by omega
          have g3 : 64 * N1 ≤ E1.size + E2.size := by omega
          replace hN1 := hide hN1
          replace hN2 := hide hN2
          replace hb5 := hide hb5
          replace z11 := hide z11
          replace z12 := hide z12
          replace z21 := hide z21
          replace z22 := hide z22
          clear hc1 hc2 hf1 hf2 q1 q2 q5 q13 q23 q14 q24 hE1 hE2 z13 z23 h191 h192 h11 h12
          go_enter Tryd.func8, Tryd.ntmps8
          have kh1 := below_alloc W (.cells #[.int .i64 ep, .int .i64 nu, .int .i64 ki, .slice a n cap, .string da, .string tx] 24)
          replace hS := hS.later kh1
          replace hS2 := hS2.later kh1
          have kB1 := kh1
          have kT1 := T.later kh1
          have X := boxR W (ep) (nu) (ki) (.slice a n cap) (da) (tx) 24
          generalize kW1 : W.alloc (.cells #[.int .i64 ep, .int .i64 nu, .int .i64 ki, .slice a n cap, .string da, .string tx] 24) = kw1 at *
          clear kh1
          have Xf0_2 := X.c0
          have Xf1_2 := X.c1
          have Xf2_2 := X.c2
          have Xf3_2 := X.c3
          have Xf4_2 := X.c4
          have Xf5_2 := X.c5
          have kh3 := below_alloc kw1 (.cells #[.int .i64 ep2, .int .i64 nu2, .int .i64 ki2, .slice a2 n2 cap2, .string da2, .string tx2] 24)
          replace X := X.later (kh3.mono X.lt)
          replace hS := hS.later kh3
          replace hS2 := hS2.later kh3
          have kB3 := kB1.trans (kh3.mono kB1.size)
          clear kB1
          have kT3 := kT1.later kh3
          clear kT1
          have X2 := boxR kw1 (ep2) (nu2) (ki2) (.slice a2 n2 cap2) (da2) (tx2) 24
          generalize kW3 : kw1.alloc (.cells #[.int .i64 ep2, .int .i64 nu2, .int .i64 ki2, .slice a2 n2 cap2, .string da2, .string tx2] 24) = kw3 at *
          clear kh3
          clear Xf0_2 Xf1_2 Xf2_2 Xf3_2 Xf4_2 Xf5_2
          have Xf0_4 := X.c0
          have Xf1_4 := X.c1
          have Xf2_4 := X.c2
          have Xf3_4 := X.c3
          have Xf4_4 := X.c4
          have Xf5_4 := X.c5
          have X2f0_5 := X2.c0
          have X2f1_5 := X2.c1
          have X2f2_5 := X2.c2
          have X2f3_5 := X2.c3
          have X2f4_5 := X2.c4
          have X2f5_5 := X2.c5
          go_wp2_with fail
          refine (hFe1 _).mono ?_
          rintro e kw6 ⟨rfl, kh6⟩
          clear Xf0_4 Xf1_4 Xf2_4 Xf3_4 Xf4_4 Xf5_4 X2f0_5 X2f1_5 X2f2_5 X2f3_5 X2f4_5 X2f5_5 kW1 kW3
          replace X := X.later (kh6.mono X.lt)
          replace X2 := X2.later (kh6.mono X2.lt)
          replace hS := hS.later kh6
          replace hS2 := hS2.later kh6
          have kB6 := kB3.trans (kh6.mono kB3.size)
          clear kB3
          have kT6 := kT3.later kh6
          clear kT3
          clear kh6 hFe1
          have Xf0_7 := X.c0
          have Xf1_7 := X.c1
          have Xf2_7 := X.c2
          have Xf3_7 := X.c3
          have Xf4_7 := X.c4
          have Xf5_7 := X.c5
          have X2f0_8 := X2.c0
          have X2f1_8 := X2.c1
          have X2f2_8 := X2.c2
          have X2f3_8 := X2.c3
          have X2f4_8 := X2.c4
          have X2f5_8 := X2.c5
          go_wp2_with fail
          refine (hFe2 _).mono ?_
          rintro e kw9 ⟨rfl, kh9⟩
          clear Xf0_7 Xf1_7 Xf2_7 Xf3_7 Xf4_7 Xf5_7 X2f0_8 X2f1_8 X2f2_8 X2f3_8 X2f4_8 X2f5_8
          replace X := X.later (kh9.mono X.lt)
          replace X2 := X2.later (kh9.mono X2.lt)
          replace hS := hS.later kh9
          replace hS2 := hS2.later kh9
          have kB9 := kB6.trans (kh9.mono kB6.size)
          clear kB6
          have kT9 := kT6.later kh9
          clear kT6
          clear kh9 hFe2
          have Xf0_10 := X.c0
          have Xf1_10 := X.c1
          have Xf2_10 := X.c2
          have Xf3_10 := X.c3
          have Xf4_10 := X.c4
          have Xf5_10 := X.c5
          have X2f0_11 := X2.c0
          have X2f1_11 := X2.c1
          have X2f2_11 := X2.c2
          have X2f3_11 := X2.c3
          have X2f4_11 := X2.c4
          have X2f5_11 := X2.c5
          go_wp2_with fail
          refine (hPl1 _).mono ?_
          rintro e kw12 ⟨rfl, kh12⟩
          clear Xf0_10 Xf1_10 Xf2_10 Xf3_10 Xf4_10 Xf5_10 X2f0_11 X2f1_11 X2f2_11 X2f3_11 X2f4_11 X2f5_11
          replace X := X.later (kh12.mono X.lt)
          replace X2 := X2.later (kh12.mono X2.lt)
          replace hS := hS.later kh12
          replace hS2 := hS2.later kh12
          have kB12 := kB9.trans (kh12.mono kB9.size)
          clear kB9
          have kT12 := kT9.later kh12
          clear kT9
          clear kh12 
          have Xf0_13 := X.c0
          have Xf1_13 := X.c1
          have Xf2_13 := X.c2
          have Xf3_13 := X.c3
          have Xf4_13 := X.c4
          have Xf5_13 := X.c5
          have X2f0_14 := X2.c0
          have X2f1_14 := X2.c1
          have X2f2_14 := X2.c2
          have X2f3_14 := X2.c3
          have X2f4_14 := X2.c4
          have X2f5_14 := X2.c5
          go_wp2_with fail
          refine (hCk1 _ hS).mono ?_
          rintro e kw15 ⟨rfl, kh15⟩
          clear Xf0_13 Xf1_13 Xf2_13 Xf3_13 Xf4_13 Xf5_13 X2f0_14 X2f1_14 X2f2_14 X2f3_14 X2f4_14 X2f5_14
          replace X := X.later (kh15.mono X.lt)
          replace X2 := X2.later (kh15.mono X2.lt)
          replace hS := hS.later kh15
          replace hS2 := hS2.later kh15
          have kB15 := kB12.trans (kh15.mono kB12.size)
          clear kB12
          have kT15 := kT12.later kh15
          clear kT12
          clear kh15 hCk1
          have Xf0_16 := X.c0
          have Xf1_16 := X.c1
          have Xf2_16 := X.c2
          have Xf3_16 := X.c3
          have Xf4_16 := X.c4
          have Xf5_16 := X.c5
          have X2f0_17 := X2.c0
          have X2f1_17 := X2.c1
          have X2f2_17 := X2.c2
          have X2f3_17 := X2.c3
          have X2f4_17 := X2.c4
          have X2f5_17 := X2.c5
          go_wp2_with fail
          refine (hPl2 _).mono ?_
          rintro e kw18 ⟨rfl, kh18⟩
          clear Xf0_16 Xf1_16 Xf2_16 Xf3_16 Xf4_16 Xf5_16 X2f0_17 X2f1_17 X2f2_17 X2f3_17 X2f4_17 X2f5_17
          replace X := X.later (kh18.mono X.lt)
          replace X2 := X2.later (kh18.mono X2.lt)
          replace hS := hS.later kh18
          replace hS2 := hS2.later kh18
          have kB18 := kB15.trans (kh18.mono kB15.size)
          clear kB15
          have kT18 := kT15.later kh18
          clear kT15
          clear kh18 
          have Xf0_19 := X.c0
          have Xf1_19 := X.c1
          have Xf2_19 := X.c2
          have Xf3_19 := X.c3
          have Xf4_19 := X.c4
          have Xf5_19 := X.c5
          have X2f0_20 := X2.c0
          have X2f1_20 := X2.c1
          have X2f2_20 := X2.c2
          have X2f3_20 := X2.c3
          have X2f4_20 := X2.c4
          have X2f5_20 := X2.c5
          go_wp2_with fail
          refine (hCk2 _ hS2).mono ?_
          rintro e kw21 ⟨rfl, kh21⟩
          clear Xf0_19 Xf1_19 Xf2_19 Xf3_19 Xf4_19 Xf5_19 X2f0_20 X2f1_20 X2f2_20 X2f3_20 X2f4_20 X2f5_20
          replace X := X.later (kh21.mono X.lt)
          replace X2 := X2.later (kh21.mono X2.lt)
          replace hS := hS.later kh21
          replace hS2 := hS2.later kh21
          have kB21 := kB18.trans (kh21.mono kB18.size)
          clear kB18
          have kT21 := kT18.later kh21
          clear kT18
          clear kh21 hCk2
          have Xf0_22 := X.c0
          have Xf1_22 := X.c1
          have Xf2_22 := X.c2
          have Xf3_22 := X.c3
          have Xf4_22 := X.c4
          have Xf5_22 := X.c5
          have X2f0_23 := X2.c0
          have X2f1_23 := X2.c1
          have X2f2_23 := X2.c2
          have X2f3_23 := X2.c3
          have X2f4_23 := X2.c4
          have X2f5_23 := X2.c5
          go_wp2_with fail
          refine (hEn1 _ kT21 hS).mono ?_
          rintro e kw24 ⟨rfl, kh24⟩
          clear Xf0_22 Xf1_22 Xf2_22 Xf3_22 Xf4_22 Xf5_22 X2f0_23 X2f1_23 X2f2_23 X2f3_23 X2f4_23 X2f5_23
          replace X := X.later (kh24.mono X.lt)
          replace X2 := X2.later (kh24.mono X2.lt)
          replace hS := hS.later kh24
          replace hS2 := hS2.later kh24
          have kB24 := kB21.trans (kh24.mono kB21.size)
          clear kB21
          have kT24 := kT21.later kh24
          clear kT21
          clear kh24 hEn1
          have Xf0_25 := X.c0
          have Xf1_25 := X.c1
          have Xf2_25 := X.c2
          have Xf3_25 := X.c3
          have Xf4_25 := X.c4
          have Xf5_25 := X.c5
          have X2f0_26 := X2.c0
          have X2f1_26 := X2.c1
          have X2f2_26 := X2.c2
          have X2f3_26 := X2.c3
          have X2f4_26 := X2.c4
          have X2f5_26 := X2.c5
          go_wp2_with fail
          refine (hEn2 _ kT24 hS2).mono ?_
          rintro e kw27 ⟨rfl, kh27⟩
          clear Xf0_25 Xf1_25 Xf2_25 Xf3_25 Xf4_25 Xf5_25 X2f0_26 X2f1_26 X2f2_26 X2f3_26 X2f4_26 X2f5_26
          replace X := X.later (kh27.mono X.lt)
          replace X2 := X2.later (kh27.mono X2.lt)
          replace hS := hS.later kh27
          replace hS2 := hS2.later kh27
          have kB27 := kB24.trans (kh27.mono kB24.size)
          clear kB24
          have kT27 := kT24.later kh27
          clear kT24
          clear kh27 hEn2
          have Xf0_28 := X.c0
          have Xf1_28 := X.c1
          have Xf2_28 := X.c2
          have Xf3_28 := X.c3
          have Xf4_28 := X.c4
          have Xf5_28 := X.c5
          have X2f0_29 := X2.c0
          have X2f1_29 := X2.c1
          have X2f2_29 := X2.c2
          have X2f3_29 := X2.c3
          have X2f4_29 := X2.c4
          have X2f5_29 := X2.c5
          go_wp2_with fail
          refine (hDe1 _ kT27).mono ?_
          rintro e kw30 ⟨v1, rfl, hO, hF, kh30⟩
          clear Xf0_28 Xf1_28 Xf2_28 Xf3_28 Xf4_28 Xf5_28 X2f0_29 X2f1_29 X2f2_29 X2f3_29 X2f4_29 X2f5_29
          replace X := X.later (kh30.mono X.lt)
          replace X2 := X2.later (kh30.mono X2.lt)
          replace hS := hS.later kh30
          replace hS2 := hS2.later kh30
          have kB30 := kB27.trans (kh30.mono kB27.size)
          clear kB27
          have kT30 := kT27.later kh30
          clear kT27
          clear kh30 hDe1
          clear hF
          obtain ⟨a3, cap3, rfl, hS3⟩ := hO.sl hfit
          clear hO
          have Xf0_31 := X.c0
          have Xf1_31 := X.c1
          have Xf2_31 := X.c2
          have Xf3_31 := X.c3
          have Xf4_31 := X.c4
          have Xf5_31 := X.c5
          have X2f0_32 := X2.c0
          have X2f1_32 := X2.c1
          have X2f2_32 := X2.c2
          have X2f3_32 := X2.c3
          have X2f4_32 := X2.c4
          have X2f5_32 := X2.c5
          have kh33 := below_alloc kw30 (.cells #[.int .i64 ep, .int .i64 nu, .int .i64 ki, .slice a3 xs.length cap3, .string da, .string tx] 24)
          replace X := X.later (kh33.mono X.lt)
          replace X2 := X2.later (kh33.mono X2.lt)
          replace hS := hS.later kh33
          replace hS2 := hS2.later kh33
          replace hS3 := hS3.later kh33
          have kB33 := kB30.trans (kh33.mono kB30.size)
          clear kB30
          have kT33 := kT30.later kh33
          clear kT30
          have Y := boxR kw30 (ep) (nu) (ki) (.slice a3 xs.length cap3) (da) (tx) 24
          generalize kW33 : kw30.alloc (.cells #[.int .i64 ep, .int .i64 nu, .int .i64 ki, .slice a3 xs.length cap3, .string da, .string tx] 24) = kw33 at *
          clear kh33
          clear Xf0_31 Xf1_31 Xf2_31 Xf3_31 Xf4_31 Xf5_31 X2f0_32 X2f1_32 X2f2_32 X2f3_32 X2f4_32 X2f5_32
          have Xf0_34 := X.c0
          have Xf1_34 := X.c1
          have Xf2_34 := X.c2
          have Xf3_34 := X.c3
          have Xf4_34 := X.c4
          have Xf5_34 := X.c5
          have X2f0_35 := X2.c0
          have X2f1_35 := X2.c1
          have X2f2_35 := X2.c2
          have X2f3_35 := X2.c3
          have X2f4_35 := X2.c4
          have X2f5_35 := X2.c5
          have Yf0_36 := Y.c0
          have Yf1_36 := Y.c1
          have Yf2_36 := Y.c2
          have Yf3_36 := Y.c3
          have Yf4_36 := Y.c4
          have Yf5_36 := Y.c5
          clear Xf0_34 Xf1_34 Xf2_34 Xf3_34 Xf4_34 Xf5_34 X2f0_35 X2f1_35 X2f2_35 X2f3_35 X2f4_35 X2f5_35 Yf0_36 Yf1_36 Yf2_36 Yf3_36 Yf4_36 Yf5_36
          have Xq0 : ∀ p : Later kw33, p.val.cell? ⟨W.heap.size, 0, none⟩ = some (.int .i64 ep) := fun p => (X.later (p.below.mono X.lt)).c0
          have Xq1 : ∀ p : Later kw33, p.val.cell? ⟨W.heap.size, 1, none⟩ = some (.int .i64 nu) := fun p => (X.later (p.below.mono X.lt)).c1
          have Xq2 : ∀ p : Later kw33, p.val.cell? ⟨W.heap.size, 2, none⟩ = some (.int .i64 ki) := fun p => (X.later (p.below.mono X.lt)).c2
          have Xq3 : ∀ p : Later kw33, p.val.cell? ⟨W.heap.size, 3, none⟩ = some (.slice a n cap) := fun p => (X.later (p.below.mono X.lt)).c3
          have Xq4 : ∀ p : Later kw33, p.val.cell? ⟨W.heap.size, 4, none⟩ = some (.string da) := fun p => (X.later (p.below.mono X.lt)).c4
          have Xq5 : ∀ p : Later kw33, p.val.cell? ⟨W.heap.size, 5, none⟩ = some (.string tx) := fun p => (X.later (p.below.mono X.lt)).c5
          have X2q0 : ∀ p : Later kw33, p.val.cell? ⟨kw1.heap.size, 0, none⟩ = some (.int .i64 ep2) := fun p => (X2.later (p.below.mono X2.lt)).c0
          have X2q1 : ∀ p : Later kw33, p.val.cell? ⟨kw1.heap.size, 1, none⟩ = some (.int .i64 nu2) := fun p => (X2.later (p.below.mono X2.lt)).c1
          have X2q2 : ∀ p : Later kw33, p.val.cell? ⟨kw1.heap.size, 2, none⟩ = some (.int .i64 ki2) := fun p => (X2.later (p.below.mono X2.lt)).c2
          have X2q3 : ∀ p : Later kw33, p.val.cell? ⟨kw1.heap.size, 3, none⟩ = some (.slice a2 n2 cap2) := fun p => (X2.later (p.below.mono X2.lt)).c3
          have X2q4 : ∀ p : Later kw33, p.val.cell? ⟨kw1.heap.size, 4, none⟩ = some (.string da2) := fun p => (X2.later (p.below.mono X2.lt)).c4
          have X2q5 : ∀ p : Later kw33, p.val.cell? ⟨kw1.heap.size, 5, none⟩ = some (.string tx2) := fun p => (X2.later (p.below.mono X2.lt)).c5
          have Yq0 : ∀ p : Later kw33, p.val.cell? ⟨kw30.heap.size, 0, none⟩ = some (.int .i64 ep) := fun p => (Y.later (p.below.mono Y.lt)).c0
          have Yq1 : ∀ p : Later kw33, p.val.cell? ⟨kw30.heap.size, 1, none⟩ = some (.int .i64 nu) := fun p => (Y.later (p.below.mono Y.lt)).c1
          have Yq2 : ∀ p : Later kw33, p.val.cell? ⟨kw30.heap.size, 2, none⟩ = some (.int .i64 ki) := fun p => (Y.later (p.below.mono Y.lt)).c2
          have Yq3 : ∀ p : Later kw33, p.val.cell? ⟨kw30.heap.size, 3, none⟩ = some (.slice a3 xs.length cap3) := fun p => (Y.later (p.below.mono Y.lt)).c3
          have Yq4 : ∀ p : Later kw33, p.val.cell? ⟨kw30.heap.size, 4, none⟩ = some (.string da) := fun p => (Y.later (p.below.mono Y.lt)).c4
          have Yq5 : ∀ p : Later kw33, p.val.cell? ⟨kw30.heap.size, 5, none⟩ = some (.string tx) := fun p => (Y.later (p.below.mono Y.lt)).c5
          have hne37 := later_ne kw33
          go_wp2
          clear kW33
          refine wp_region_later (by kernel_rfl) (by kernel_rfl) ?_
          (repeat (first | go_big_quiet_skip | (go_big_quiet_want; go_big_quiet_op; go_big_quiet_on)))
          (go_big_quiet_want; go_big_quiet_op; apply Exists.intro; refine ⟨fun p => ?_, ?_⟩; (· exact later_of (hPl1 p.val)); go_big_quiet_on)
          (repeat (first | go_big_quiet_skip | (go_big_quiet_want; go_big_quiet_op; go_big_quiet_on)))
          (go_big_quiet_want; go_big_quiet_op; apply Exists.intro; refine ⟨fun p => ?_, ?_⟩; (· exact later_of (hSm1 p.val a3 cap3 (hS.later p.below) (hS3.later p.below))); go_big_quiet_on)
          (repeat (first | go_big_quiet_skip | (go_big_quiet_want; go_big_quiet_op; go_big_quiet_on)))
          refine wpQuiet_nil ?_
          rintro _ ⟨p37, rfl⟩
          have kh37 := p37.below
          clear Xq0 Xq1 Xq2 Xq3 Xq4 Xq5 X2q0 X2q1 X2q2 X2q3 X2q4 X2q5 Yq0 Yq1 Yq2 Yq3 Yq4 Yq5 hne37
          replace X := X.later (kh37.mono X.lt)
          replace X2 := X2.later (kh37.mono X2.lt)
          replace Y := Y.later (kh37.mono Y.lt)
          replace hS := hS.later kh37
          replace hS2 := hS2.later kh37
          replace hS3 := hS3.later kh37
          have kB37 := kB33.trans (kh37.mono kB33.size)
          clear kB33
          have kT37 := kT33.later kh37
          clear kT33
          generalize p37.val = kw37 at *
          clear kh37
          have Xf0_38 := X.c0
          have Xf1_38 := X.c1
          have Xf2_38 := X.c2
          have Xf3_38 := X.c3
          have Xf4_38 := X.c4
          have Xf5_38 := X.c5
          have X2f0_39 := X2.c0
          have X2f1_39 := X2.c1
          have X2f2_39 := X2.c2
          have X2f3_39 := X2.c3
          have X2f4_39 := X2.c4
          have X2f5_39 := X2.c5
          have Yf0_40 := Y.c0
          have Yf1_40 := Y.c1
          have Yf2_40 := Y.c2
          have Yf3_40 := Y.c3
          have Yf4_40 := Y.c4
          have Yf5_40 := Y.c5
          go_wp2_with fail
          refine (hDe2 _ kT37).mono ?_
          rintro e kw41 ⟨v2, rfl, hO, hF, kh41⟩
          clear Xf0_38 Xf1_38 Xf2_38 Xf3_38 Xf4_38 Xf5_38 X2f0_39 X2f1_39 X2f2_39 X2f3_39 X2f4_39 X2f5_39 Yf0_40 Yf1_40 Yf2_40 Yf3_40 Yf4_40 Yf5_40
          replace X := X.later (kh41.mono X.lt)
          replace X2 := X2.later (kh41.mono X2.lt)
          replace Y := Y.later (kh41.mono Y.lt)
          replace hS := hS.later kh41
          replace hS2 := hS2.later kh41
          replace hS3 := hS3.later kh41
          have kB41 := kB37.trans (kh41.mono kB37.size)
          clear kB37
          have kT41 := kT37.later kh41
          clear kT37
          clear kh41 hDe2
          clear hF
          obtain ⟨a4, cap4, rfl, hS4⟩ := hO.sl hfit2
          clear hO
          have Xf0_42 := X.c0
          have Xf1_42 := X.c1
          have Xf2_42 := X.c2
          have Xf3_42 := X.c3
          have Xf4_42 := X.c4
          have Xf5_42 := X.c5
          have X2f0_43 := X2.c0
          have X2f1_43 := X2.c1
          have X2f2_43 := X2.c2
          have X2f3_43 := X2.c3
          have X2f4_43 := X2.c4
          have X2f5_43 := X2.c5
          have Yf0_44 := Y.c0
          have Yf1_44 := Y.c1
          have Yf2_44 := Y.c2
          have Yf3_44 := Y.c3
          have Yf4_44 := Y.c4
          have Yf5_44 := Y.c5
          have kh45 := below_alloc kw41 (.cells #[.int .i64 ep2, .int .i64 nu2, .int .i64 ki2, .slice a4 ys.length cap4, .string da2, .string tx2] 24)
          replace X := X.later (kh45.mono X.lt)
          replace X2 := X2.later (kh45.mono X2.lt)
          replace Y := Y.later (kh45.mono Y.lt)
          replace hS := hS.later kh45
          replace hS2 := hS2.later kh45
          replace hS3 := hS3.later kh45
          replace hS4 := hS4.later kh45
          have kB45 := kB41.trans (kh45.mono kB41.size)
          clear kB41
          have kT45 := kT41.later kh45
          clear kT41
          have V := boxR kw41 (ep2) (nu2) (ki2) (.slice a4 ys.length cap4) (da2) (tx2) 24
          generalize kW45 : kw41.alloc (.cells #[.int .i64 ep2, .int .i64 nu2, .int .i64 ki2, .slice a4 ys.length cap4, .string da2, .string tx2] 24) = kw45 at *
          clear kh45
          clear Xf0_42 Xf1_42 Xf2_42 Xf3_42 Xf4_42 Xf5_42 X2f0_43 X2f1_43 X2f2_43 X2f3_43 X2f4_43 X2f5_43 Yf0_44 Yf1_44 Yf2_44 Yf3_44 Yf4_44 Yf5_44
          have Xf0_46 := X.c0
          have Xf1_46 := X.c1
          have Xf2_46 := X.c2
          have Xf3_46 := X.c3
          have Xf4_46 := X.c4
          have Xf5_46 := X.c5
          have X2f0_47 := X2.c0
          have X2f1_47 := X2.c1
          have X2f2_47 := X2.c2
          have X2f3_47 := X2.c3
          have X2f4_47 := X2.c4
          have X2f5_47 := X2.c5
          have Yf0_48 := Y.c0
          have Yf1_48 := Y.c1
          have Yf2_48 := Y.c2
          have Yf3_48 := Y.c3
          have Yf4_48 := Y.c4
          have Yf5_48 := Y.c5
          have Vf0_49 := V.c0
          have Vf1_49 := V.c1
          have Vf2_49 := V.c2
          have Vf3_49 := V.c3
          have Vf4_49 := V.c4
          have Vf5_49 := V.c5
          go_wp2_with fail
          refine (hHe2 _ kT45).mono ?_
          rintro e kw50 ⟨v3, rfl, hO, hF, kh50⟩
          clear Xf0_46 Xf1_46 Xf2_46 Xf3_46 Xf4_46 Xf5_46 X2f0_47 X2f1_47 X2f2_47 X2f3_47 X2f4_47 X2f5_47 Yf0_48 Yf1_48 Yf2_48 Yf3_48 Yf4_48 Yf5_48 Vf0_49 Vf1_49 Vf2_49 Vf3_49 Vf4_49 Vf5_49 kW45
          replace X := X.later (kh50.mono X.lt)
          replace X2 := X2.later (kh50.mono X2.lt)
          replace Y := Y.later (kh50.mono Y.lt)
          replace V := V.later (kh50.mono V.lt)
          replace hS := hS.later kh50
          replace hS2 := hS2.later kh50
          replace hS3 := hS3.later kh50
          replace hS4 := hS4.later kh50
          have kB50 := kB45.trans (kh50.mono kB45.size)
          clear kB45
          have kT50 := kT45.later kh50
          clear kT45
          clear kh50 hHe2
          clear hF
          obtain ⟨a5, cap5, rfl, hS5⟩ := hO.sl hfit2
          clear hO
          have Xf0_51 := X.c0
          have Xf1_51 := X.c1
          have Xf2_51 := X.c2
          have Xf3_51 := X.c3
          have Xf4_51 := X.c4
          have Xf5_51 := X.c5
          have X2f0_52 := X2.c0
          have X2f1_52 := X2.c1
          have X2f2_52 := X2.c2
          have X2f3_52 := X2.c3
          have X2f4_52 := X2.c4
          have X2f5_52 := X2.c5
          have Yf0_53 := Y.c0
          have Yf1_53 := Y.c1
          have Yf2_53 := Y.c2
          have Yf3_53 := Y.c3
          have Yf4_53 := Y.c4
          have Yf5_53 := Y.c5
          have Vf0_54 := V.c0
          have Vf1_54 := V.c1
          have Vf2_54 := V.c2
          have Vf3_54 := V.c3
          have Vf4_54 := V.c4
          have Vf5_54 := V.c5
          have kh55 := below_alloc kw50 (.cells #[.int .i64 ep2, .int .i64 nu2, .int .i64 ki2, .slice a5 ys.length cap5, .string ⟨#[]⟩, .string tx2] 24)
          replace X := X.later (kh55.mono X.lt)
          replace X2 := X2.later (kh55.mono X2.lt)
          replace Y := Y.later (kh55.mono Y.lt)
          replace V := V.later (kh55.mono V.lt)
          replace hS := hS.later kh55
          replace hS2 := hS2.later kh55
          replace hS3 := hS3.later kh55
          replace hS4 := hS4.later kh55
          replace hS5 := hS5.later kh55
          have kB55 := kB50.trans (kh55.mono kB50.size)
          clear kB50
          have kT55 := kT50.later kh55
          clear kT50
          have U := boxR kw50 (ep2) (nu2) (ki2) (.slice a5 ys.length cap5) (⟨#[]⟩) (tx2) 24
          generalize kW55 : kw50.alloc (.cells #[.int .i64 ep2, .int .i64 nu2, .int .i64 ki2, .slice a5 ys.length cap5, .string ⟨#[]⟩, .string tx2] 24) = kw55 at *
          clear kh55
          clear Xf0_51 Xf1_51 Xf2_51 Xf3_51 Xf4_51 Xf5_51 X2f0_52 X2f1_52 X2f2_52 X2f3_52 X2f4_52 X2f5_52 Yf0_53 Yf1_53 Yf2_53 Yf3_53 Yf4_53 Yf5_53 Vf0_54 Vf1_54 Vf2_54 Vf3_54 Vf4_54 Vf5_54
          have Xf0_56 := X.c0
          have Xf1_56 := X.c1
          have Xf2_56 := X.c2
          have Xf3_56 := X.c3
          have Xf4_56 := X.c4
          have Xf5_56 := X.c5
          have X2f0_57 := X2.c0
          have X2f1_57 := X2.c1
          have X2f2_57 := X2.c2
          have X2f3_57 := X2.c3
          have X2f4_57 := X2.c4
          have X2f5_57 := X2.c5
          have Yf0_58 := Y.c0
          have Yf1_58 := Y.c1
          have Yf2_58 := Y.c2
          have Yf3_58 := Y.c3
          have Yf4_58 := Y.c4
          have Yf5_58 := Y.c5
          have Vf0_59 := V.c0
          have Vf1_59 := V.c1
          have Vf2_59 := V.c2
          have Vf3_59 := V.c3
          have Vf4_59 := V.c4
          have Vf5_59 := V.c5
          have Uf0_60 := U.c0
          have Uf1_60 := U.c1
          have Uf2_60 := U.c2
          have Uf3_60 := U.c3
          have Uf4_60 := U.c4
          have Uf5_60 := U.c5
          clear Xf0_56 Xf1_56 Xf2_56 Xf3_56 Xf4_56 Xf5_56 X2f0_57 X2f1_57 X2f2_57 X2f3_57 X2f4_57 X2f5_57 Yf0_58 Yf1_58 Yf2_58 Yf3_58 Yf4_58 Yf5_58 Vf0_59 Vf1_59 Vf2_59 Vf3_59 Vf4_59 Vf5_59 Uf0_60 Uf1_60 Uf2_60 Uf3_60 Uf4_60 Uf5_60
          have Xq0 : ∀ p : Later kw55, p.val.cell? ⟨W.heap.size, 0, none⟩ = some (.int .i64 ep) := fun p => (X.later (p.below.mono X.lt)).c0
          have Xq1 : ∀ p : Later kw55, p.val.cell? ⟨W.heap.size, 1, none⟩ = some (.int .i64 nu) := fun p => (X.later (p.below.mono X.lt)).c1
          have Xq2 : ∀ p : Later kw55, p.val.cell? ⟨W.heap.size, 2, none⟩ = some (.int .i64 ki) := fun p => (X.later (p.below.mono X.lt)).c2
          have Xq3 : ∀ p : Later kw55, p.val.cell? ⟨W.heap.size, 3, none⟩ = some (.slice a n cap) := fun p => (X.later (p.below.mono X.lt)).c3
          have Xq4 : ∀ p : Later kw55, p.val.cell? ⟨W.heap.size, 4, none⟩ = some (.string da) := fun p => (X.later (p.below.mono X.lt)).c4
          have Xq5 : ∀ p : Later kw55, p.val.cell? ⟨W.heap.size, 5, none⟩ = some (.string tx) := fun p => (X.later (p.below.mono X.lt)).c5
          have X2q0 : ∀ p : Later kw55, p.val.cell? ⟨kw1.heap.size, 0, none⟩ = some (.int .i64 ep2) := fun p => (X2.later (p.below.mono X2.lt)).c0
          have X2q1 : ∀ p : Later kw55, p.val.cell? ⟨kw1.heap.size, 1, none⟩ = some (.int .i64 nu2) := fun p => (X2.later (p.below.mono X2.lt)).c1
          have X2q2 : ∀ p : Later kw55, p.val.cell? ⟨kw1.heap.size, 2, none⟩ = some (.int .i64 ki2) := fun p => (X2.later (p.below.mono X2.lt)).c2
          have X2q3 : ∀ p : Later kw55, p.val.cell? ⟨kw1.heap.size, 3, none⟩ = some (.slice a2 n2 cap2) := fun p => (X2.later (p.below.mono X2.lt)).c3
          have X2q4 : ∀ p : Later kw55, p.val.cell? ⟨kw1.heap.size, 4, none⟩ = some (.string da2) := fun p => (X2.later (p.below.mono X2.lt)).c4
          have X2q5 : ∀ p : Later kw55, p.val.cell? ⟨kw1.heap.size, 5, none⟩ = some (.string tx2) := fun p => (X2.later (p.below.mono X2.lt)).c5
          have Vq0 : ∀ p : Later kw55, p.val.cell? ⟨kw41.heap.size, 0, none⟩ = some (.int .i64 ep2) := fun p => (V.later (p.below.mono V.lt)).c0
          have Vq1 : ∀ p : Later kw55, p.val.cell? ⟨kw41.heap.size, 1, none⟩ = some (.int .i64 nu2) := fun p => (V.later (p.below.mono V.lt)).c1
          have Vq2 : ∀ p : Later kw55, p.val.cell? ⟨kw41.heap.size, 2, none⟩ = some (.int .i64 ki2) := fun p => (V.later (p.below.mono V.lt)).c2
          have Vq3 : ∀ p : Later kw55, p.val.cell? ⟨kw41.heap.size, 3, none⟩ = some (.slice a4 ys.length cap4) := fun p => (V.later (p.below.mono V.lt)).c3
          have Vq4 : ∀ p : Later kw55, p.val.cell? ⟨kw41.heap.size, 4, none⟩ = some (.string da2) := fun p => (V.later (p.below.mono V.lt)).c4
          have Vq5 : ∀ p : Later kw55, p.val.cell? ⟨kw41.heap.size, 5, none⟩ = some (.string tx2) := fun p => (V.later (p.below.mono V.lt)).c5
          have hne61 := later_ne kw55
          go_wp2
          clear kW55
          refine wp_region_later (by kernel_rfl) (by kernel_rfl) ?_
          (repeat (first | go_big_quiet_skip | (go_big_quiet_want; go_big_quiet_op; go_big_quiet_on)))
          (go_big_quiet_want; go_big_quiet_op; apply Exists.intro; refine ⟨fun p => ?_, ?_⟩; (· exact later_of (hPl2 p.val)); go_big_quiet_on)
          (repeat (first | go_big_quiet_skip | (go_big_quiet_want; go_big_quiet_op; go_big_quiet_on)))
          (go_big_quiet_want; go_big_quiet_op; apply Exists.intro; refine ⟨fun p => ?_, ?_⟩; (· exact later_of (hSm2 p.val a4 cap4 (hS2.later p.below) (hS4.later p.below))); go_big_quiet_on)
          (repeat (first | go_big_quiet_skip | (go_big_quiet_want; go_big_quiet_op; go_big_quiet_on)))
          (go_big_quiet_want; go_big_quiet_op; apply Exists.intro; refine ⟨fun p => ?_, ?_⟩; (· exact later_of (hSi1 p.val (kT55.later p.below) (hS.later p.below))); go_big_quiet_on)
          (repeat (first | go_big_quiet_skip | (go_big_quiet_want; go_big_quiet_op; go_big_quiet_on)))
          (go_big_quiet_want; go_big_quiet_op; apply Exists.intro; refine ⟨fun p => ?_, ?_⟩; (· exact later_of (hSi2 p.val (kT55.later p.below) (hS2.later p.below))); go_big_quiet_on)
          (repeat (first | go_big_quiet_skip | (go_big_quiet_want; go_big_quiet_op; go_big_quiet_on)))
          (go_big_quiet_want; go_big_quiet_op; apply Exists.intro; refine ⟨fun p => ?_, ?_⟩; (· exact later_of (awake_any p.val (kT55.later p.below))); go_big_quiet_on)
          (repeat (first | go_big_quiet_skip | (go_big_quiet_want; go_big_quiet_op; go_big_quiet_on)))
          refine wpQuiet_nil ?_
          rintro _ ⟨p61, rfl⟩
          have kh61 := p61.below
          clear Xq0 Xq1 Xq2 Xq3 Xq4 Xq5 X2q0 X2q1 X2q2 X2q3 X2q4 X2q5 Vq0 Vq1 Vq2 Vq3 Vq4 Vq5 hne61
          replace X := X.later (kh61.mono X.lt)
          replace X2 := X2.later (kh61.mono X2.lt)
          replace Y := Y.later (kh61.mono Y.lt)
          replace V := V.later (kh61.mono V.lt)
          replace U := U.later (kh61.mono U.lt)
          replace hS := hS.later kh61
          replace hS2 := hS2.later kh61
          replace hS3 := hS3.later kh61
          replace hS4 := hS4.later kh61
          replace hS5 := hS5.later kh61
          have kB61 := kB55.trans (kh61.mono kB55.size)
          clear kB55
          have kT61 := kT55.later kh61
          clear kT55
          generalize p61.val = kw61 at *
          clear kh61
          have Xf0_62 := X.c0
          have Xf1_62 := X.c1
          have Xf2_62 := X.c2
          have Xf3_62 := X.c3
          have Xf4_62 := X.c4
          have Xf5_62 := X.c5
          have X2f0_63 := X2.c0
          have X2f1_63 := X2.c1
          have X2f2_63 := X2.c2
          have X2f3_63 := X2.c3
          have X2f4_63 := X2.c4
          have X2f5_63 := X2.c5
          have Yf0_64 := Y.c0
          have Yf1_64 := Y.c1
          have Yf2_64 := Y.c2
          have Yf3_64 := Y.c3
          have Yf4_64 := Y.c4
          have Yf5_64 := Y.c5
          have Vf0_65 := V.c0
          have Vf1_65 := V.c1
          have Vf2_65 := V.c2
          have Vf3_65 := V.c3
          have Vf4_65 := V.c4
          have Vf5_65 := V.c5
          have Uf0_66 := U.c0
          have Uf1_66 := U.c1
          have Uf2_66 := U.c2
          have Uf3_66 := U.c3
          have Uf4_66 := U.c4
          have Uf5_66 := U.c5
          go_wp2
          go_ret
          exact ⟨rfl, kB61⟩
        · have hc0 : (chk ⟨ep2, nu2, ki2, ys, da2, tx2⟩ == 0) = false := by rwa [beq_eq_false_iff_ne]
          have hc9 : (chk ⟨ep2, nu2, ki2, ys, da2, tx2⟩ != 0) = true := by simpa using hc2
          generalize chk ⟨ep2, nu2, ki2, ys, da2, tx2⟩ = C at *
          rw [hc1] at hCk1
          clear hf1 hf2 hc1
          go_enter Tryd.func8, Tryd.ntmps8
          have kh1 := below_alloc W (.cells #[.int .i64 ep, .int .i64 nu, .int .i64 ki, .slice a n cap, .string da, .string tx] 24)
          replace hS := hS.later kh1
          replace hS2 := hS2.later kh1
          have kB1 := kh1
          have kT1 := T.later kh1
          have X := boxR W (ep) (nu) (ki) (.slice a n cap) (da) (tx) 24
          generalize kW1 : W.alloc (.cells #[.int .i64 ep, .int .i64 nu, .int .i64 ki, .slice a n cap, .string da, .string tx] 24) = kw1 at *
          clear kh1
          have Xf0_2 := X.c0
          have Xf1_2 := X.c1
          have Xf2_2 := X.c2
          have Xf3_2 := X.c3
          have Xf4_2 := X.c4
          have Xf5_2 := X.c5
          have kh3 := below_alloc kw1 (.cells #[.int .i64 ep2, .int .i64 nu2, .int .i64 ki2, .slice a2 n2 cap2, .string da2, .string tx2] 24)
          replace X := X.later (kh3.mono X.lt)
          replace hS := hS.later kh3
          replace hS2 := hS2.later kh3
          have kB3 := kB1.trans (kh3.mono kB1.size)
          clear kB1
          have kT3 := kT1.later kh3
          clear kT1
          have X2 := boxR kw1 (ep2) (nu2) (ki2) (.slice a2 n2 cap2) (da2) (tx2) 24
          generalize kW3 : kw1.alloc (.cells #[.int .i64 ep2, .int .i64 nu2, .int .i64 ki2, .slice a2 n2 cap2, .string da2, .string tx2] 24) = kw3 at *
          clear kh3
          clear Xf0_2 Xf1_2 Xf2_2 Xf3_2 Xf4_2 Xf5_2
          have Xf0_4 := X.c0
          have Xf1_4 := X.c1
          have Xf2_4 := X.c2
          have Xf3_4 := X.c3
          have Xf4_4 := X.c4
          have Xf5_4 := X.c5
          have X2f0_5 := X2.c0
          have X2f1_5 := X2.c1
          have X2f2_5 := X2.c2
          have X2f3_5 := X2.c3
          have X2f4_5 := X2.c4
          have X2f5_5 := X2.c5
          go_wp2_with fail
          refine (hFe1 _).mono ?_
          rintro e kw6 ⟨rfl, kh6⟩
          clear Xf0_4 Xf1_4 Xf2_4 Xf3_4 Xf4_4 Xf5_4 X2f0_5 X2f1_5 X2f2_5 X2f3_5 X2f4_5 X2f5_5 kW1 kW3
          replace X := X.later (kh6.mono X.lt)
          replace X2 := X2.later (kh6.mono X2.lt)
          replace hS := hS.later kh6
          replace hS2 := hS2.later kh6
          have kB6 := kB3.trans (kh6.mono kB3.size)
          clear kB3
          have kT6 := kT3.later kh6
          clear kT3
          clear kh6 hFe1
          have Xf0_7 := X.c0
          have Xf1_7 := X.c1
          have Xf2_7 := X.c2
          have Xf3_7 := X.c3
          have Xf4_7 := X.c4
          have Xf5_7 := X.c5
          have X2f0_8 := X2.c0
          have X2f1_8 := X2.c1
          have X2f2_8 := X2.c2
          have X2f3_8 := X2.c3
          have X2f4_8 := X2.c4
          have X2f5_8 := X2.c5
          go_wp2_with fail
          refine (hFe2 _).mono ?_
          rintro e kw9 ⟨rfl, kh9⟩
          clear Xf0_7 Xf1_7 Xf2_7 Xf3_7 Xf4_7 Xf5_7 X2f0_8 X2f1_8 X2f2_8 X2f3_8 X2f4_8 X2f5_8
          replace X := X.later (kh9.mono X.lt)
          replace X2 := X2.later (kh9.mono X2.lt)
          replace hS := hS.later kh9
          replace hS2 := hS2.later kh9
          have kB9 := kB6.trans (kh9.mono kB6.size)
          clear kB6
          have kT9 := kT6.later kh9
          clear kT6
          clear kh9 hFe2
          have Xf0_10 := X.c0
          have Xf1_10 := X.c1
          have Xf2_10 := X.c2
          have Xf3_10 := X.c3
          have Xf4_10 := X.c4
          have Xf5_10 := X.c5
          have X2f0_11 := X2.c0
          have X2f1_11 := X2.c1
          have X2f2_11 := X2.c2
          have X2f3_11 := X2.c3
          have X2f4_11 := X2.c4
          have X2f5_11 := X2.c5
          go_wp2_with fail
          refine (hPl1 _).mono ?_
          rintro e kw12 ⟨rfl, kh12⟩
          clear Xf0_10 Xf1_10 Xf2_10 Xf3_10 Xf4_10 Xf5_10 X2f0_11 X2f1_11 X2f2_11 X2f3_11 X2f4_11 X2f5_11
          replace X := X.later (kh12.mono X.lt)
          replace X2 := X2.later (kh12.mono X2.lt)
          replace hS := hS.later kh12
          replace hS2 := hS2.later kh12
          have kB12 := kB9.trans (kh12.mono kB9.size)
          clear kB9
          have kT12 := kT9.later kh12
          clear kT9
          clear kh12 
          have Xf0_13 := X.c0
          have Xf1_13 := X.c1
          have Xf2_13 := X.c2
          have Xf3_13 := X.c3
          have Xf4_13 := X.c4
          have Xf5_13 := X.c5
          have X2f0_14 := X2.c0
          have X2f1_14 := X2.c1
          have X2f2_14 := X2.c2
          have X2f3_14 := X2.c3
          have X2f4_14 := X2.c4
          have X2f5_14 := X2.c5
          go_wp2_with fail
          refine (hCk1 _ hS).mono ?_
          rintro e kw15 ⟨rfl, kh15⟩
          clear Xf0_13 Xf1_13 Xf2_13 Xf3_13 Xf4_13 Xf5_13 X2f0_14 X2f1_14 X2f2_14 X2f3_14 X2f4_14 X2f5_14
          replace X := X.later (kh15.mono X.lt)
          replace X2 := X2.later (kh15.mono X2.lt)
          replace hS := hS.later kh15
          replace hS2 := hS2.later kh15
          have kB15 := kB12.trans (kh15.mono kB12.size)
          clear kB12
          have kT15 := kT12.later kh15
          clear kT12
          clear kh15 
          have Xf0_16 := X.c0
          have Xf1_16 := X.c1
          have Xf2_16 := X.c2
          have Xf3_16 := X.c3
          have Xf4_16 := X.c4
          have Xf5_16 := X.c5
          have X2f0_17 := X2.c0
          have X2f1_17 := X2.c1
          have X2f2_17 := X2.c2
          have X2f3_17 := X2.c3
          have X2f4_17 := X2.c4
          have X2f5_17 := X2.c5
          go_wp2_with fail
          refine (hPl2 _).mono ?_
          rintro e kw18 ⟨rfl, kh18⟩
          clear Xf0_16 Xf1_16 Xf2_16 Xf3_16 Xf4_16 Xf5_16 X2f0_17 X2f1_17 X2f2_17 X2f3_17 X2f4_17 X2f5_17
          replace X := X.later (kh18.mono X.lt)
          replace X2 := X2.later (kh18.mono X2.lt)
          replace hS := hS.later kh18
          replace hS2 := hS2.later kh18
          have kB18 := kB15.trans (kh18.mono kB15.size)
          clear kB15
          have kT18 := kT15.later kh18
          clear kT15
          clear kh18 
          have Xf0_19 := X.c0
          have Xf1_19 := X.c1
          have Xf2_19 := X.c2
          have Xf3_19 := X.c3
          have Xf4_19 := X.c4
          have Xf5_19 := X.c5
          have X2f0_20 := X2.c0
          have X2f1_20 := X2.c1
          have X2f2_20 := X2.c2
          have X2f3_20 := X2.c3
          have X2f4_20 := X2.c4
          have X2f5_20 := X2.c5
          go_wp2_with fail
          refine (hCk2 _ hS2).mono ?_
          rintro e kw21 ⟨rfl, kh21⟩
          clear Xf0_19 Xf1_19 Xf2_19 Xf3_19 Xf4_19 Xf5_19 X2f0_20 X2f1_20 X2f2_20 X2f3_20 X2f4_20 X2f5_20
          replace X := X.later (kh21.mono X.lt)
          replace X2 := X2.later (kh21.mono X2.lt)
          replace hS := hS.later kh21
          replace hS2 := hS2.later kh21
          have kB21 := kB18.trans (kh21.mono kB18.size)
          clear kB18
          have kT21 := kT18.later kh21
          clear kT18
          clear kh21 
          have Xf0_22 := X.c0
          have Xf1_22 := X.c1
          have Xf2_22 := X.c2
          have Xf3_22 := X.c3
          have Xf4_22 := X.c4
          have Xf5_22 := X.c5
          have X2f0_23 := X2.c0
          have X2f1_23 := X2.c1
          have X2f2_23 := X2.c2
          have X2f3_23 := X2.c3
          have X2f4_23 := X2.c4
          have X2f5_23 := X2.c5
          go_wp2_with fail
          refine (awake_any _ kT21).mono ?_
          rintro e kw24 ⟨rfl, kh24⟩
          clear Xf0_22 Xf1_22 Xf2_22 Xf3_22 Xf4_22 Xf5_22 X2f0_23 X2f1_23 X2f2_23 X2f3_23 X2f4_23 X2f5_23
          replace X := X.later (kh24.mono X.lt)
          replace X2 := X2.later (kh24.mono X2.lt)
          replace hS := hS.later kh24
          replace hS2 := hS2.later kh24
          have kB24 := kB21.trans (kh24.mono kB21.size)
          clear kB21
          have kT24 := kT21.later kh24
          clear kT21
          clear kh24 
          have Xf0_25 := X.c0
          have Xf1_25 := X.c1
          have Xf2_25 := X.c2
          have Xf3_25 := X.c3
          have Xf4_25 := X.c4
          have Xf5_25 := X.c5
          have X2f0_26 := X2.c0
          have X2f1_26 := X2.c1
          have X2f2_26 := X2.c2
          have X2f3_26 := X2.c3
          have X2f4_26 := X2.c4
          have X2f5_26 := X2.c5
          go_wp2
          go_ret
          exact ⟨rfl, kB24⟩
      · have hc0 : (chk ⟨ep, nu, ki, xs, da, tx⟩ == 0) = false := by rwa [beq_eq_false_iff_ne]
        have hc9 : (chk ⟨ep, nu, ki, xs, da, tx⟩ != 0) = true := by simpa using hc1
        generalize chk ⟨ep, nu, ki, xs, da, tx⟩ = C at *
        clear hf1 hf2 hCk2 hPl2
        go_enter Tryd.func8, Tryd.ntmps8
        have kh1 := below_alloc W (.cells #[.int .i64 ep, .int .i64 nu, .int .i64 ki, .slice a n cap, .string da, .string tx] 24)
        replace hS := hS.later kh1
        replace hS2 := hS2.later kh1
        have kB1 := kh1
        have kT1 := T.later kh1
        have X := boxR W (ep) (nu) (ki) (.slice a n cap) (da) (tx) 24
        generalize kW1 : W.alloc (.cells #[.int .i64 ep, .int .i64 nu, .int .i64 ki, .slice a n cap, .string da, .string tx] 24) = kw1 at *
        clear kh1
        have Xf0_2 := X.c0
        have Xf1_2 := X.c1
        have Xf2_2 := X.c2
        have Xf3_2 := X.c3
        have Xf4_2 := X.c4
        have Xf5_2 := X.c5
        have kh3 := below_alloc kw1 (.cells #[.int .i64 ep2, .int .i64 nu2, .int .i64 ki2, .slice a2 n2 cap2, .string da2, .string tx2] 24)
        replace X := X.later (kh3.mono X.lt)
        replace hS := hS.later kh3
        replace hS2 := hS2.later kh3
        have kB3 := kB1.trans (kh3.mono kB1.size)
        clear kB1
        have kT3 := kT1.later kh3
        clear kT1
        have X2 := boxR kw1 (ep2) (nu2) (ki2) (.slice a2 n2 cap2) (da2) (tx2) 24
        generalize kW3 : kw1.alloc (.cells #[.int .i64 ep2, .int .i64 nu2, .int .i64 ki2, .slice a2 n2 cap2, .string da2, .string tx2] 24) = kw3 at *
        clear kh3
        clear Xf0_2 Xf1_2 Xf2_2 Xf3_2 Xf4_2 Xf5_2
        have Xf0_4 := X.c0
        have Xf1_4 := X.c1
        have Xf2_4 := X.c2
        have Xf3_4 := X.c3
        have Xf4_4 := X.c4
        have Xf5_4 := X.c5
        have X2f0_5 := X2.c0
        have X2f1_5 := X2.c1
        have X2f2_5 := X2.c2
        have X2f3_5 := X2.c3
        have X2f4_5 := X2.c4
        have X2f5_5 := X2.c5
        go_wp2_with fail
        refine (hFe1 _).mono ?_
        rintro e kw6 ⟨rfl, kh6⟩
        clear Xf0_4 Xf1_4 Xf2_4 Xf3_4 Xf4_4 Xf5_4 X2f0_5 X2f1_5 X2f2_5 X2f3_5 X2f4_5 X2f5_5 kW1 kW3
        replace X := X.later (kh6.mono X.lt)
        replace X2 := X2.later (kh6.mono X2.lt)
        replace hS := hS.later kh6
        replace hS2 := hS2.later kh6
        have kB6 := kB3.trans (kh6.mono kB3.size)
        clear kB3
        have kT6 := kT3.later kh6
        clear kT3
        clear kh6 hFe1
        have Xf0_7 := X.c0
        have Xf1_7 := X.c1
        have Xf2_7 := X.c2
        have Xf3_7 := X.c3
        have Xf4_7 := X.c4
        have Xf5_7 := X.c5
        have X2f0_8 := X2.c0
        have X2f1_8 := X2.c1
        have X2f2_8 := X2.c2
        have X2f3_8 := X2.c3
        have X2f4_8 := X2.c4
        have X2f5_8 := X2.c5
        go_wp2_with fail
        refine (hFe2 _).mono ?_
        rintro e kw9 ⟨rfl, kh9⟩
        clear Xf0_7 Xf1_7 Xf2_7 Xf3_7 Xf4_7 Xf5_7 X2f0_8 X2f1_8 X2f2_8 X2f3_8 X2f4_8 X2f5_8
        replace X := X.later (kh9.mono X.lt)
        replace X2 := X2.later (kh9.mono X2.lt)
        replace hS := hS.later kh9
        replace hS2 := hS2.later kh9
        have kB9 := kB6.trans (kh9.mono kB6.size)
        clear kB6
        have kT9 := kT6.later kh9
        clear kT6
        clear kh9 hFe2
        have Xf0_10 := X.c0
        have Xf1_10 := X.c1
        have Xf2_10 := X.c2
        have Xf3_10 := X.c3
        have Xf4_10 := X.c4
        have Xf5_10 := X.c5
        have X2f0_11 := X2.c0
        have X2f1_11 := X2.c1
        have X2f2_11 := X2.c2
        have X2f3_11 := X2.c3
        have X2f4_11 := X2.c4
        have X2f5_11 := X2.c5
        go_wp2_with fail
        refine (hPl1 _).mono ?_
        rintro e kw12 ⟨rfl, kh12⟩
        clear Xf0_10 Xf1_10 Xf2_10 Xf3_10 Xf4_10 Xf5_10 X2f0_11 X2f1_11 X2f2_11 X2f3_11 X2f4_11 X2f5_11
        replace X := X.later (kh12.mono X.lt)
        replace X2 := X2.later (kh12.mono X2.lt)
        replace hS := hS.later kh12
        replace hS2 := hS2.later kh12
        have kB12 := kB9.trans (kh12.mono kB9.size)
        clear kB9
        have kT12 := kT9.later kh12
        clear kT9
        clear kh12 
        have Xf0_13 := X.c0
        have Xf1_13 := X.c1
        have Xf2_13 := X.c2
        have Xf3_13 := X.c3
        have Xf4_13 := X.c4
        have Xf5_13 := X.c5
        have X2f0_14 := X2.c0
        have X2f1_14 := X2.c1
        have X2f2_14 := X2.c2
        have X2f3_14 := X2.c3
        have X2f4_14 := X2.c4
        have X2f5_14 := X2.c5
        go_wp2_with fail
        refine (hCk1 _ hS).mono ?_
        rintro e kw15 ⟨rfl, kh15⟩
        clear Xf0_13 Xf1_13 Xf2_13 Xf3_13 Xf4_13 Xf5_13 X2f0_14 X2f1_14 X2f2_14 X2f3_14 X2f4_14 X2f5_14
        replace X := X.later (kh15.mono X.lt)
        replace X2 := X2.later (kh15.mono X2.lt)
        replace hS := hS.later kh15
        replace hS2 := hS2.later kh15
        have kB15 := kB12.trans (kh15.mono kB12.size)
        clear kB12
        have kT15 := kT12.later kh15
        clear kT12
        clear kh15 
        have Xf0_16 := X.c0
        have Xf1_16 := X.c1
        have Xf2_16 := X.c2
        have Xf3_16 := X.c3
        have Xf4_16 := X.c4
        have Xf5_16 := X.c5
        have X2f0_17 := X2.c0
        have X2f1_17 := X2.c1
        have X2f2_17 := X2.c2
        have X2f3_17 := X2.c3
        have X2f4_17 := X2.c4
        have X2f5_17 := X2.c5
        go_wp2_with fail
        refine (awake_any _ kT15).mono ?_
        rintro e kw18 ⟨rfl, kh18⟩
        clear Xf0_16 Xf1_16 Xf2_16 Xf3_16 Xf4_16 Xf5_16 X2f0_17 X2f1_17 X2f2_17 X2f3_17 X2f4_17 X2f5_17
        replace X := X.later (kh18.mono X.lt)
        replace X2 := X2.later (kh18.mono X2.lt)
        replace hS := hS.later kh18
        replace hS2 := hS2.later kh18
        have kB18 := kB15.trans (kh18.mono kB15.size)
        clear kB15
        have kT18 := kT15.later kh18
        clear kT15
        clear kh18 
        have Xf0_19 := X.c0
        have Xf1_19 := X.c1
        have Xf2_19 := X.c2
        have Xf3_19 := X.c3
        have Xf4_19 := X.c4
        have Xf5_19 := X.c5
        have X2f0_20 := X2.c0
        have X2f1_20 := X2.c1
        have X2f2_20 := X2.c2
        have X2f3_20 := X2.c3
        have X2f4_20 := X2.c4
        have X2f5_20 := X2.c5
        go_wp2
        go_ret
        exact ⟨rfl, kB18⟩
end Re
end Go.Proofs.YtnpbgjafahhadaaDoor
