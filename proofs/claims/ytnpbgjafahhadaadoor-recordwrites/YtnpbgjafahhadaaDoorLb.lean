/- The law RecordBack, walked. -/
import Derived.Test.YtnpbgjafahhadaaDoorLa
namespace Go.Proofs.YtnpbgjafahhadaaDoor
open Go.RowKit
namespace Re
open Cr
theorem few_sizes {r : Rc} (h : fewB r = true) : r.da.size < 40000 ∧ r.tx.size ≤ 600 ∧ r.sp.length ≤ 80 := by
  simp only [fewB, Bool.and_eq_true, decide_eq_true_eq] at h
  omega
set_option maxHeartbeats 4000000 in
theorem recordBack_walk (ep nu ki : Int) (a : Option Addr) (n cap : Nat) (xs : List (Int × Int)) (da tx rest : ByteArray) (W : World) (T : Tab W) (hS : Sl W a n xs) (ht : tx.size ≤ 9223372036854775807) (hd : da.size ≤ 9223372036854775807) (hr : rest.size ≤ 9223372036854775807) : Calls Tryd.prog 5 #[.agg #[.int .i64 ep, .int .i64 nu, .int .i64 ki, .slice a n cap, .string da, .string tx], .string rest] W fun e w' => e = .returned (.bool true) ∧ Below W.heap.size W w' := by
  have hFe : ∀ (w : World), _ := fun w => few_rec_any ep nu ki a n cap xs da tx w hS.len hS.most ht hd
  have hPl : ∀ (w : World), _ := fun w => plain_any ep nu ki a n cap da tx w
  have hCk : ∀ (w : World) (h : Sl w a n xs), _ := fun w h => rcheck_any ep nu ki a n cap xs da tx w h ht hd
  cases hf : fewB ⟨ep, nu, ki, xs, da, tx⟩ with
  | false =>
    rw [hf] at hFe
    clear hf hPl hCk
    go_enter Tryd.func5, Tryd.ntmps5
    have kh1 := below_alloc W (.cells #[.int .i64 ep, .int .i64 nu, .int .i64 ki, .slice a n cap, .string da, .string tx] 24)
    replace hS := hS.later kh1
    have kB1 := kh1
    have kT1 := T.later kh1
    have X := boxR W (ep) (nu) (ki) (.slice a n cap) (da) (tx) 24
    generalize kW1 : W.alloc (.cells #[.int .i64 ep, .int .i64 nu, .int .i64 ki, .slice a n cap, .string da, .string tx] 24) = kw1 at *
    clear kh1
    have Xf0_2 := X.c0
    have Xf1_2 := X.c1
    have Xf2_2 := X.c2
    have Xf3_2 := X.c3
    have Xf4_2 := X.c4
    have Xf5_2 := X.c5
    go_wp2_with fail
    refine (hFe _).mono ?_
    rintro e kw3 ⟨rfl, kh3⟩
    clear Xf0_2 Xf1_2 Xf2_2 Xf3_2 Xf4_2 Xf5_2 kW1
    replace X := X.later (kh3.mono X.lt)
    replace hS := hS.later kh3
    have kB3 := kB1.trans (kh3.mono kB1.size)
    clear kB1
    have kT3 := kT1.later kh3
    clear kT1
    clear kh3 hFe
    have Xf0_4 := X.c0
    have Xf1_4 := X.c1
    have Xf2_4 := X.c2
    have Xf3_4 := X.c3
    have Xf4_4 := X.c4
    have Xf5_4 := X.c5
    go_wp2_with fail
    refine (awake_any _ kT3).mono ?_
    rintro e kw5 ⟨rfl, kh5⟩
    clear Xf0_4 Xf1_4 Xf2_4 Xf3_4 Xf4_4 Xf5_4
    replace X := X.later (kh5.mono X.lt)
    replace hS := hS.later kh5
    have kB5 := kB3.trans (kh5.mono kB3.size)
    clear kB3
    have kT5 := kT3.later kh5
    clear kT3
    clear kh5 
    have Xf0_6 := X.c0
    have Xf1_6 := X.c1
    have Xf2_6 := X.c2
    have Xf3_6 := X.c3
    have Xf4_6 := X.c4
    have Xf5_6 := X.c5
    go_wp2
    go_ret
    exact ⟨rfl, kB5⟩
  | true =>
    rw [hf] at hFe
    obtain ⟨fd, ft, fs⟩ := few_sizes hf
    simp only at fd ft fs
    by_cases hl : 500 < rest.size
    · have hl2 : (500 : Int) < (rest.size : Int) := by omega
      clear hf hPl hCk
      go_enter Tryd.func5, Tryd.ntmps5
      have kh1 := below_alloc W (.cells #[.int .i64 ep, .int .i64 nu, .int .i64 ki, .slice a n cap, .string da, .string tx] 24)
      replace hS := hS.later kh1
      have kB1 := kh1
      have kT1 := T.later kh1
      have X := boxR W (ep) (nu) (ki) (.slice a n cap) (da) (tx) 24
      generalize kW1 : W.alloc (.cells #[.int .i64 ep, .int .i64 nu, .int .i64 ki, .slice a n cap, .string da, .string tx] 24) = kw1 at *
      clear kh1
      have Xf0_2 := X.c0
      have Xf1_2 := X.c1
      have Xf2_2 := X.c2
      have Xf3_2 := X.c3
      have Xf4_2 := X.c4
      have Xf5_2 := X.c5
      go_wp2_with fail
      refine (hFe _).mono ?_
      rintro e kw3 ⟨rfl, kh3⟩
      clear Xf0_2 Xf1_2 Xf2_2 Xf3_2 Xf4_2 Xf5_2 kW1
      replace X := X.later (kh3.mono X.lt)
      replace hS := hS.later kh3
      have kB3 := kB1.trans (kh3.mono kB1.size)
      clear kB1
      have kT3 := kT1.later kh3
      clear kT1
      clear kh3 hFe
      have Xf0_4 := X.c0
      have Xf1_4 := X.c1
      have Xf2_4 := X.c2
      have Xf3_4 := X.c3
      have Xf4_4 := X.c4
      have Xf5_4 := X.c5
      go_wp2_with fail
      refine (awake_any _ kT3).mono ?_
      rintro e kw5 ⟨rfl, kh5⟩
      clear Xf0_4 Xf1_4 Xf2_4 Xf3_4 Xf4_4 Xf5_4
      replace X := X.later (kh5.mono X.lt)
      replace hS := hS.later kh5
      have kB5 := kB3.trans (kh5.mono kB3.size)
      clear kB3
      have kT5 := kT3.later kh5
      clear kT3
      clear kh5 
      have Xf0_6 := X.c0
      have Xf1_6 := X.c1
      have Xf2_6 := X.c2
      have Xf3_6 := X.c3
      have Xf4_6 := X.c4
      have Xf5_6 := X.c5
      go_wp2
      go_ret
      exact ⟨rfl, kB5⟩
    · have hl2 : ¬ (500 : Int) < (rest.size : Int) := by omega
      by_cases hc : chk ⟨ep, nu, ki, xs, da, tx⟩ = 0
      · have hEn : ∀ (w : World) (T : Tab w) (h : Sl w a n xs), _ := fun w T h => encode_rec_any ep nu ki a n cap xs da tx w T h ht hd
        have hSi : ∀ (w : World) (T : Tab w) (h : Sl w a n xs), _ := fun w T h => size_rec_any ep nu ki a n cap xs da tx w T h ht hd
        have hSm : ∀ (w : World) (a2 : Option Addr) (cap2 : Nat) (h : Sl w a n xs) (h2 : Sl w a2 xs.length xs), _ := fun w a2 cap2 h h2 => same_rec_any ep nu ki a2 xs.length cap2 xs da tx ep nu ki a n cap xs da tx w h2 h
        rw [sameB_iff.2 rfl] at hSm
        obtain ⟨z1, z2, z3⟩ := enc_sizes hc
        have hfit := hS.fit
        have q1 := rH_enc hc rest
        have q2 := dR_enc hc rest
        obtain ⟨q3, q4⟩ := nd_need (chk_head hc)
        have h19 := body_hn (chk_head hc) (more 0 (bs da))
        have h1 := (hn_le (body ⟨ep, nu, ki, xs, da, tx⟩ (more 0 (bs da))).length).2.2
        rw [encR, if_pos hc, hc] at hEn
        rw [z3] at hSi
        rw [hc] at hCk
        simp only at z1 z2 q1 q2 q3 q4 hfit h19 h1
        have hsz : (enc ⟨ep, nu, ki, xs, da, tx⟩ ++ rest).size ≤ 1000000 := by
          rw [ByteArray.size_append]
          omega
        have hDe : ∀ (w : World) (T : Tab w), _ := fun w T => decode_rec_any (enc ⟨ep, nu, ki, xs, da, tx⟩ ++ rest) hsz w T
        have hHe : ∀ (w : World) (T : Tab w), _ := fun w T => head_rec_any (enc ⟨ep, nu, ki, xs, da, tx⟩ ++ rest) hsz w T
        rw [q2] at hDe
        rw [q1] at hHe
        simp only [need_bare] at hHe
        rw [← q3] at hHe
        simp only [bare] at hHe
        generalize hn (body ⟨ep, nu, ki, xs, da, tx⟩ (more 0 (bs da))).length = H at *
        generalize nd ⟨ep, nu, ki, xs, da, tx⟩ = D at *
        generalize hE : enc ⟨ep, nu, ki, xs, da, tx⟩ = E at *
        have e1 : ((64 : Int) * ((H + D : Nat) : Int) == (E.size : Int)) = true := by rw [beq_iff_eq, z2]; omega
        have e2 : ((64 : Int) * (D : Int) == (da.size : Int)) = true := by rw [beq_iff_eq, z1]; omega
        have e3 : ((H : Int) + (D : Int) == ((H + D : Nat) : Int)) = true := by rw [beq_iff_eq]; omega
        have hb : H + D ≤ 600 := by omega
        have hbH : H ≤ 600 := by omega
        have hbD : D ≤ 600 := by omega
        have hb1 : E.size ≤ 38400 := by omega
        generalize hN : H + D = N at *
        replace hN := hide hN
        replace z1 := hide z1
        replace z2 := hide z2
        clear hf hc q1 q2 q3 q4 hE z3 h19 h1
        go_enter Tryd.func5, Tryd.ntmps5
        have kh1 := below_alloc W (.cells #[.int .i64 ep, .int .i64 nu, .int .i64 ki, .slice a n cap, .string da, .string tx] 24)
        replace hS := hS.later kh1
        have kB1 := kh1
        have kT1 := T.later kh1
        have X := boxR W (ep) (nu) (ki) (.slice a n cap) (da) (tx) 24
        generalize kW1 : W.alloc (.cells #[.int .i64 ep, .int .i64 nu, .int .i64 ki, .slice a n cap, .string da, .string tx] 24) = kw1 at *
        clear kh1
        have Xf0_2 := X.c0
        have Xf1_2 := X.c1
        have Xf2_2 := X.c2
        have Xf3_2 := X.c3
        have Xf4_2 := X.c4
        have Xf5_2 := X.c5
        go_wp2_with fail
        refine (hFe _).mono ?_
        rintro e kw3 ⟨rfl, kh3⟩
        clear Xf0_2 Xf1_2 Xf2_2 Xf3_2 Xf4_2 Xf5_2 kW1
        replace X := X.later (kh3.mono X.lt)
        replace hS := hS.later kh3
        have kB3 := kB1.trans (kh3.mono kB1.size)
        clear kB1
        have kT3 := kT1.later kh3
        clear kT1
        clear kh3 hFe
        have Xf0_4 := X.c0
        have Xf1_4 := X.c1
        have Xf2_4 := X.c2
        have Xf3_4 := X.c3
        have Xf4_4 := X.c4
        have Xf5_4 := X.c5
        go_wp2_with fail
        refine (hPl _).mono ?_
        rintro e kw5 ⟨rfl, kh5⟩
        clear Xf0_4 Xf1_4 Xf2_4 Xf3_4 Xf4_4 Xf5_4
        replace X := X.later (kh5.mono X.lt)
        replace hS := hS.later kh5
        have kB5 := kB3.trans (kh5.mono kB3.size)
        clear kB3
        have kT5 := kT3.later kh5
        clear kT3
        clear kh5 
        have Xf0_6 := X.c0
        have Xf1_6 := X.c1
        have Xf2_6 := X.c2
        have Xf3_6 := X.c3
        have Xf4_6 := X.c4
        have Xf5_6 := X.c5
        go_wp2_with fail
        refine (hCk _ hS).mono ?_
        rintro e kw7 ⟨rfl, kh7⟩
        clear Xf0_6 Xf1_6 Xf2_6 Xf3_6 Xf4_6 Xf5_6
        replace X := X.later (kh7.mono X.lt)
        replace hS := hS.later kh7
        have kB7 := kB5.trans (kh7.mono kB5.size)
        clear kB5
        have kT7 := kT5.later kh7
        clear kT5
        clear kh7 hCk
        have Xf0_8 := X.c0
        have Xf1_8 := X.c1
        have Xf2_8 := X.c2
        have Xf3_8 := X.c3
        have Xf4_8 := X.c4
        have Xf5_8 := X.c5
        go_wp2_with fail
        refine (hEn _ kT7 hS).mono ?_
        rintro e kw9 ⟨rfl, kh9⟩
        clear Xf0_8 Xf1_8 Xf2_8 Xf3_8 Xf4_8 Xf5_8
        replace X := X.later (kh9.mono X.lt)
        replace hS := hS.later kh9
        have kB9 := kB7.trans (kh9.mono kB7.size)
        clear kB7
        have kT9 := kT7.later kh9
        clear kT7
        clear kh9 hEn
        have Xf0_10 := X.c0
        have Xf1_10 := X.c1
        have Xf2_10 := X.c2
        have Xf3_10 := X.c3
        have Xf4_10 := X.c4
        have Xf5_10 := X.c5
        go_wp2_with fail
        refine (hDe _ kT9).mono ?_
        rintro e kw11 ⟨v1, rfl, hO, hF, kh11⟩
        clear Xf0_10 Xf1_10 Xf2_10 Xf3_10 Xf4_10 Xf5_10
        replace X := X.later (kh11.mono X.lt)
        replace hS := hS.later kh11
        have kB11 := kB9.trans (kh11.mono kB9.size)
        clear kB9
        have kT11 := kT9.later kh11
        clear kT9
        clear kh11 hDe
        clear hF
        obtain ⟨a2, cap2, rfl, hS2⟩ := hO.sl hfit
        clear hO
        have Xf0_12 := X.c0
        have Xf1_12 := X.c1
        have Xf2_12 := X.c2
        have Xf3_12 := X.c3
        have Xf4_12 := X.c4
        have Xf5_12 := X.c5
        have kh13 := below_alloc kw11 (.cells #[.int .i64 ep, .int .i64 nu, .int .i64 ki, .slice a2 xs.length cap2, .string da, .string tx] 24)
        replace X := X.later (kh13.mono X.lt)
        replace hS := hS.later kh13
        replace hS2 := hS2.later kh13
        have kB13 := kB11.trans (kh13.mono kB11.size)
        clear kB11
        have kT13 := kT11.later kh13
        clear kT11
        have Y := boxR kw11 (ep) (nu) (ki) (.slice a2 xs.length cap2) (da) (tx) 24
        generalize kW13 : kw11.alloc (.cells #[.int .i64 ep, .int .i64 nu, .int .i64 ki, .slice a2 xs.length cap2, .string da, .string tx] 24) = kw13 at *
        clear kh13
        clear Xf0_12 Xf1_12 Xf2_12 Xf3_12 Xf4_12 Xf5_12
        have Xf0_14 := X.c0
        have Xf1_14 := X.c1
        have Xf2_14 := X.c2
        have Xf3_14 := X.c3
        have Xf4_14 := X.c4
        have Xf5_14 := X.c5
        have Yf0_15 := Y.c0
        have Yf1_15 := Y.c1
        have Yf2_15 := Y.c2
        have Yf3_15 := Y.c3
        have Yf4_15 := Y.c4
        have Yf5_15 := Y.c5
        go_wp2_with fail
        refine (hHe _ kT13).mono ?_
        rintro e kw16 ⟨v2, rfl, hO, hF, kh16⟩
        clear Xf0_14 Xf1_14 Xf2_14 Xf3_14 Xf4_14 Xf5_14 Yf0_15 Yf1_15 Yf2_15 Yf3_15 Yf4_15 Yf5_15 kW13
        replace X := X.later (kh16.mono X.lt)
        replace Y := Y.later (kh16.mono Y.lt)
        replace hS := hS.later kh16
        replace hS2 := hS2.later kh16
        have kB16 := kB13.trans (kh16.mono kB13.size)
        clear kB13
        have kT16 := kT13.later kh16
        clear kT13
        clear kh16 hHe
        clear hF
        obtain ⟨a3, cap3, rfl, hS3⟩ := hO.sl hfit
        clear hO
        have Xf0_17 := X.c0
        have Xf1_17 := X.c1
        have Xf2_17 := X.c2
        have Xf3_17 := X.c3
        have Xf4_17 := X.c4
        have Xf5_17 := X.c5
        have Yf0_18 := Y.c0
        have Yf1_18 := Y.c1
        have Yf2_18 := Y.c2
        have Yf3_18 := Y.c3
        have Yf4_18 := Y.c4
        have Yf5_18 := Y.c5
        have kh19 := below_alloc kw16 (.cells #[.int .i64 ep, .int .i64 nu, .int .i64 ki, .slice a3 xs.length cap3, .string ⟨#[]⟩, .string tx] 24)
        replace X := X.later (kh19.mono X.lt)
        replace Y := Y.later (kh19.mono Y.lt)
        replace hS := hS.later kh19
        replace hS2 := hS2.later kh19
        replace hS3 := hS3.later kh19
        have kB19 := kB16.trans (kh19.mono kB16.size)
        clear kB16
        have kT19 := kT16.later kh19
        clear kT16
        have Z := boxR kw16 (ep) (nu) (ki) (.slice a3 xs.length cap3) (⟨#[]⟩) (tx) 24
        generalize kW19 : kw16.alloc (.cells #[.int .i64 ep, .int .i64 nu, .int .i64 ki, .slice a3 xs.length cap3, .string ⟨#[]⟩, .string tx] 24) = kw19 at *
        clear kh19
        clear Xf0_17 Xf1_17 Xf2_17 Xf3_17 Xf4_17 Xf5_17 Yf0_18 Yf1_18 Yf2_18 Yf3_18 Yf4_18 Yf5_18
        have Xf0_20 := X.c0
        have Xf1_20 := X.c1
        have Xf2_20 := X.c2
        have Xf3_20 := X.c3
        have Xf4_20 := X.c4
        have Xf5_20 := X.c5
        have Yf0_21 := Y.c0
        have Yf1_21 := Y.c1
        have Yf2_21 := Y.c2
        have Yf3_21 := Y.c3
        have Yf4_21 := Y.c4
        have Yf5_21 := Y.c5
        have Zf0_22 := Z.c0
        have Zf1_22 := Z.c1
        have Zf2_22 := Z.c2
        have Zf3_22 := Z.c3
        have Zf4_22 := Z.c4
        have Zf5_22 := Z.c5
        clear Xf0_20 Xf1_20 Xf2_20 Xf3_20 Xf4_20 Xf5_20 Yf0_21 Yf1_21 Yf2_21 Yf3_21 Yf4_21 Yf5_21 Zf0_22 Zf1_22 Zf2_22 Zf3_22 Zf4_22 Zf5_22
        have Xq0 : ∀ p : Later kw19, p.val.cell? ⟨W.heap.size, 0, none⟩ = some (.int .i64 ep) := fun p => (X.later (p.below.mono X.lt)).c0
        have Xq1 : ∀ p : Later kw19, p.val.cell? ⟨W.heap.size, 1, none⟩ = some (.int .i64 nu) := fun p => (X.later (p.below.mono X.lt)).c1
        have Xq2 : ∀ p : Later kw19, p.val.cell? ⟨W.heap.size, 2, none⟩ = some (.int .i64 ki) := fun p => (X.later (p.below.mono X.lt)).c2
        have Xq3 : ∀ p : Later kw19, p.val.cell? ⟨W.heap.size, 3, none⟩ = some (.slice a n cap) := fun p => (X.later (p.below.mono X.lt)).c3
        have Xq4 : ∀ p : Later kw19, p.val.cell? ⟨W.heap.size, 4, none⟩ = some (.string da) := fun p => (X.later (p.below.mono X.lt)).c4
        have Xq5 : ∀ p : Later kw19, p.val.cell? ⟨W.heap.size, 5, none⟩ = some (.string tx) := fun p => (X.later (p.below.mono X.lt)).c5
        have Yq0 : ∀ p : Later kw19, p.val.cell? ⟨kw11.heap.size, 0, none⟩ = some (.int .i64 ep) := fun p => (Y.later (p.below.mono Y.lt)).c0
        have Yq1 : ∀ p : Later kw19, p.val.cell? ⟨kw11.heap.size, 1, none⟩ = some (.int .i64 nu) := fun p => (Y.later (p.below.mono Y.lt)).c1
        have Yq2 : ∀ p : Later kw19, p.val.cell? ⟨kw11.heap.size, 2, none⟩ = some (.int .i64 ki) := fun p => (Y.later (p.below.mono Y.lt)).c2
        have Yq3 : ∀ p : Later kw19, p.val.cell? ⟨kw11.heap.size, 3, none⟩ = some (.slice a2 xs.length cap2) := fun p => (Y.later (p.below.mono Y.lt)).c3
        have Yq4 : ∀ p : Later kw19, p.val.cell? ⟨kw11.heap.size, 4, none⟩ = some (.string da) := fun p => (Y.later (p.below.mono Y.lt)).c4
        have Yq5 : ∀ p : Later kw19, p.val.cell? ⟨kw11.heap.size, 5, none⟩ = some (.string tx) := fun p => (Y.later (p.below.mono Y.lt)).c5
        have Zq0 : ∀ p : Later kw19, p.val.cell? ⟨kw16.heap.size, 0, none⟩ = some (.int .i64 ep) := fun p => (Z.later (p.below.mono Z.lt)).c0
        have Zq1 : ∀ p : Later kw19, p.val.cell? ⟨kw16.heap.size, 1, none⟩ = some (.int .i64 nu) := fun p => (Z.later (p.below.mono Z.lt)).c1
        have Zq2 : ∀ p : Later kw19, p.val.cell? ⟨kw16.heap.size, 2, none⟩ = some (.int .i64 ki) := fun p => (Z.later (p.below.mono Z.lt)).c2
        have Zq3 : ∀ p : Later kw19, p.val.cell? ⟨kw16.heap.size, 3, none⟩ = some (.slice a3 xs.length cap3) := fun p => (Z.later (p.below.mono Z.lt)).c3
        have Zq4 : ∀ p : Later kw19, p.val.cell? ⟨kw16.heap.size, 4, none⟩ = some (.string ⟨#[]⟩) := fun p => (Z.later (p.below.mono Z.lt)).c4
        have Zq5 : ∀ p : Later kw19, p.val.cell? ⟨kw16.heap.size, 5, none⟩ = some (.string tx) := fun p => (Z.later (p.below.mono Z.lt)).c5
        have hne23 := later_ne kw19
        go_wp2
        clear kW19
        refine wp_region_later (by kernel_rfl) (by kernel_rfl) ?_
        (repeat (first | go_big_quiet_skip | (go_big_quiet_want; go_big_quiet_op; go_big_quiet_on)))
        (go_big_quiet_want; go_big_quiet_op; apply Exists.intro; refine ⟨fun p => ?_, ?_⟩; (· exact later_of (hPl p.val)); go_big_quiet_on)
        (repeat (first | go_big_quiet_skip | (go_big_quiet_want; go_big_quiet_op; go_big_quiet_on)))
        (go_big_quiet_want; go_big_quiet_op; apply Exists.intro; refine ⟨fun p => ?_, ?_⟩; (· exact later_of (hSm p.val a2 cap2 (hS.later p.below) (hS2.later p.below))); go_big_quiet_on)
        (repeat (first | go_big_quiet_skip | (go_big_quiet_want; go_big_quiet_op; go_big_quiet_on)))
        (go_big_quiet_want; go_big_quiet_op; apply Exists.intro; refine ⟨fun p => ?_, ?_⟩; (· exact later_of (hSi p.val (kT19.later p.below) (hS.later p.below))); go_big_quiet_on)
        (repeat (first | go_big_quiet_skip | (go_big_quiet_want; go_big_quiet_op; go_big_quiet_on)))
        (go_big_quiet_want; go_big_quiet_op; apply Exists.intro; refine ⟨fun p => ?_, ?_⟩; (· exact later_of (awake_any p.val (kT19.later p.below))); go_big_quiet_on)
        (repeat (first | go_big_quiet_skip | (go_big_quiet_want; go_big_quiet_op; go_big_quiet_on)))
        refine wpQuiet_nil ?_
        rintro _ ⟨p23, rfl⟩
        have kh23 := p23.below
        clear Xq0 Xq1 Xq2 Xq3 Xq4 Xq5 Yq0 Yq1 Yq2 Yq3 Yq4 Yq5 Zq0 Zq1 Zq2 Zq3 Zq4 Zq5 hne23
        replace X := X.later (kh23.mono X.lt)
        replace Y := Y.later (kh23.mono Y.lt)
        replace Z := Z.later (kh23.mono Z.lt)
        replace hS := hS.later kh23
        replace hS2 := hS2.later kh23
        replace hS3 := hS3.later kh23
        have kB23 := kB19.trans (kh23.mono kB19.size)
        clear kB19
        have kT23 := kT19.later kh23
        clear kT19
        generalize p23.val = kw23 at *
        clear kh23
        have Xf0_24 := X.c0
        have Xf1_24 := X.c1
        have Xf2_24 := X.c2
        have Xf3_24 := X.c3
        have Xf4_24 := X.c4
        have Xf5_24 := X.c5
        have Yf0_25 := Y.c0
        have Yf1_25 := Y.c1
        have Yf2_25 := Y.c2
        have Yf3_25 := Y.c3
        have Yf4_25 := Y.c4
        have Yf5_25 := Y.c5
        have Zf0_26 := Z.c0
        have Zf1_26 := Z.c1
        have Zf2_26 := Z.c2
        have Zf3_26 := Z.c3
        have Zf4_26 := Z.c4
        have Zf5_26 := Z.c5
        go_wp2
        go_ret
        exact ⟨rfl, kB23⟩
      · have hc0 : (chk ⟨ep, nu, ki, xs, da, tx⟩ == 0) = false := by rwa [beq_eq_false_iff_ne]
        have hc1 : (chk ⟨ep, nu, ki, xs, da, tx⟩ != 0) = true := by simpa using hc
        generalize chk ⟨ep, nu, ki, xs, da, tx⟩ = C at *
        clear hf
        go_enter Tryd.func5, Tryd.ntmps5
        have kh1 := below_alloc W (.cells #[.int .i64 ep, .int .i64 nu, .int .i64 ki, .slice a n cap, .string da, .string tx] 24)
        replace hS := hS.later kh1
        have kB1 := kh1
        have kT1 := T.later kh1
        have X := boxR W (ep) (nu) (ki) (.slice a n cap) (da) (tx) 24
        generalize kW1 : W.alloc (.cells #[.int .i64 ep, .int .i64 nu, .int .i64 ki, .slice a n cap, .string da, .string tx] 24) = kw1 at *
        clear kh1
        have Xf0_2 := X.c0
        have Xf1_2 := X.c1
        have Xf2_2 := X.c2
        have Xf3_2 := X.c3
        have Xf4_2 := X.c4
        have Xf5_2 := X.c5
        go_wp2_with fail
        refine (hFe _).mono ?_
        rintro e kw3 ⟨rfl, kh3⟩
        clear Xf0_2 Xf1_2 Xf2_2 Xf3_2 Xf4_2 Xf5_2 kW1
        replace X := X.later (kh3.mono X.lt)
        replace hS := hS.later kh3
        have kB3 := kB1.trans (kh3.mono kB1.size)
        clear kB1
        have kT3 := kT1.later kh3
        clear kT1
        clear kh3 hFe
        have Xf0_4 := X.c0
        have Xf1_4 := X.c1
        have Xf2_4 := X.c2
        have Xf3_4 := X.c3
        have Xf4_4 := X.c4
        have Xf5_4 := X.c5
        go_wp2_with fail
        refine (hPl _).mono ?_
        rintro e kw5 ⟨rfl, kh5⟩
        clear Xf0_4 Xf1_4 Xf2_4 Xf3_4 Xf4_4 Xf5_4
        replace X := X.later (kh5.mono X.lt)
        replace hS := hS.later kh5
        have kB5 := kB3.trans (kh5.mono kB3.size)
        clear kB3
        have kT5 := kT3.later kh5
        clear kT3
        clear kh5 hPl
        have Xf0_6 := X.c0
        have Xf1_6 := X.c1
        have Xf2_6 := X.c2
        have Xf3_6 := X.c3
        have Xf4_6 := X.c4
        have Xf5_6 := X.c5
        go_wp2_with fail
        refine (hCk _ hS).mono ?_
        rintro e kw7 ⟨rfl, kh7⟩
        clear Xf0_6 Xf1_6 Xf2_6 Xf3_6 Xf4_6 Xf5_6
        replace X := X.later (kh7.mono X.lt)
        replace hS := hS.later kh7
        have kB7 := kB5.trans (kh7.mono kB5.size)
        clear kB5
        have kT7 := kT5.later kh7
        clear kT5
        clear kh7 hCk
        have Xf0_8 := X.c0
        have Xf1_8 := X.c1
        have Xf2_8 := X.c2
        have Xf3_8 := X.c3
        have Xf4_8 := X.c4
        have Xf5_8 := X.c5
        go_wp2_with fail
        refine (awake_any _ kT7).mono ?_
        rintro e kw9 ⟨rfl, kh9⟩
        clear Xf0_8 Xf1_8 Xf2_8 Xf3_8 Xf4_8 Xf5_8
        replace X := X.later (kh9.mono X.lt)
        replace hS := hS.later kh9
        have kB9 := kB7.trans (kh9.mono kB7.size)
        clear kB7
        have kT9 := kT7.later kh9
        clear kT7
        clear kh9 
        have Xf0_10 := X.c0
        have Xf1_10 := X.c1
        have Xf2_10 := X.c2
        have Xf3_10 := X.c3
        have Xf4_10 := X.c4
        have Xf5_10 := X.c5
        go_wp2
        go_ret
        exact ⟨rfl, kB9⟩
end Re
end Go.Proofs.YtnpbgjafahhadaaDoor
