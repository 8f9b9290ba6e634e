/- The law RecordTold, walked. -/
import Derived.Test.YtnpbgjafahhadaaDoorLb
import Derived.Test.YtnpbgjafahhadaaDoorLr
import Derived.Laws.BitsAllLaws
namespace Go.Proofs.YtnpbgjafahhadaaDoor
open Go.RowKit
namespace Re
open Cr
theorem tur_err {r : Rc} (h : chk r = 0) {p t : Nat} (hp : p < (enc r).size) (ht : t < 256) (h0 : t ≠ 0) : ∃ er : Int, (er == 0) = false ∧ dR (tur (enc r) p t) = (no, 0, er) := by
  have h1 := dR_tur h hp ht h0
  rcases dR_err (tur (enc r) p t) with h2 | h2 | h2 | h2
  · exact absurd h2 h1
  · exact ⟨10, rfl, h2⟩
  · exact ⟨12, rfl, h2⟩
  · exact ⟨13, rfl, h2⟩
set_option maxHeartbeats 8000000 in
set_option maxRecDepth 20000 in
theorem recordTold_walk (ep nu ki : Int) (a : Option Addr) (n cap : Nat) (xs : List (Int × Int)) (da tx : ByteArray) (at1 ct : Int) (x : Nat) (ha1 : I64 at1) (hct : I64 ct) (hx : x < 256) (W : World) (T : Tab W) (hS : Sl W a n xs) (ht : tx.size ≤ 9223372036854775807) (hd : da.size ≤ 9223372036854775807) : Calls Tryd.prog 6 #[.agg #[.int .i64 ep, .int .i64 nu, .int .i64 ki, .slice a n cap, .string da, .string tx], .agg #[.int .i64 at1, .int .i64 ct], .int .u8 (x : Nat)] W fun e w' => e = .returned (.bool true) ∧ Below W.heap.size W w' := by
  have hFe : ∀ (w : World), _ := fun w => few_rec_any ep nu ki a n cap xs da tx w hS.len hS.most ht hd
  have hPl : ∀ (w : World), _ := fun w => plain_any ep nu ki a n cap da tx w
  have hCk : ∀ (w : World) (h : Sl w a n xs), _ := fun w h => rcheck_any ep nu ki a n cap xs da tx w h ht hd
  cases hf : fewB ⟨ep, nu, ki, xs, da, tx⟩ with
  | false =>
    rw [hf] at hFe
    clear hf hPl hCk
    go_enter Tryd.func6, Tryd.ntmps6
    have kh1 := below_alloc W (.cells #[.int .i64 ep, .int .i64 nu, .int .i64 ki, .slice a n cap, .string da, .string tx] 24)
    replace hS := hS.later kh1
    have kB1 := kh1
    have kT1 := T.later kh1
    have X := boxR W (ep) (nu) (ki) (.slice a n cap) (da) (tx) 24
    generalize kW1 : W.alloc (.cells #[.int .i64 ep, .int .i64 nu, .int .i64 ki, .slice a n cap, .string da, .string tx] 24) = kw1 at *
    clear kh1
    have Xf0_2 := X.c0
    have Xf1_2 := X.c1
    have Xf2_2 := X.c2
    have Xf3_2 := X.c3
    have Xf4_2 := X.c4
    have Xf5_2 := X.c5
    have kh3 := below_alloc kw1 (.cells #[.int .i64 at1, .int .i64 ct] 51)
    replace X := X.later (kh3.mono X.lt)
    replace hS := hS.later kh3
    have kB3 := kB1.trans (kh3.mono kB1.size)
    clear kB1
    have kT3 := kT1.later kh3
    clear kT1
    have P := box2 kw1 at1 ct 51
    generalize kW3 : kw1.alloc (.cells #[.int .i64 at1, .int .i64 ct] 51) = kw3 at *
    clear kh3
    clear Xf0_2 Xf1_2 Xf2_2 Xf3_2 Xf4_2 Xf5_2
    have Xf0_4 := X.c0
    have Xf1_4 := X.c1
    have Xf2_4 := X.c2
    have Xf3_4 := X.c3
    have Xf4_4 := X.c4
    have Xf5_4 := X.c5
    have Pf0_5 := P.c0
    have Pf1_5 := P.c1
    go_wp2_with fail
    refine (hFe _).mono ?_
    rintro e kw6 ⟨rfl, kh6⟩
    clear Xf0_4 Xf1_4 Xf2_4 Xf3_4 Xf4_4 Xf5_4 Pf0_5 Pf1_5 kW1 kW3
    replace X := X.later (kh6.mono X.lt)
    replace P := P.later (kh6.mono P.lt)
    replace hS := hS.later kh6
    have kB6 := kB3.trans (kh6.mono kB3.size)
    clear kB3
    have kT6 := kT3.later kh6
    clear kT3
    clear kh6 hFe
    have Xf0_7 := X.c0
    have Xf1_7 := X.c1
    have Xf2_7 := X.c2
    have Xf3_7 := X.c3
    have Xf4_7 := X.c4
    have Xf5_7 := X.c5
    have Pf0_8 := P.c0
    have Pf1_8 := P.c1
    go_wp2_with fail
    refine (awake_any _ kT6).mono ?_
    rintro e kw9 ⟨rfl, kh9⟩
    clear Xf0_7 Xf1_7 Xf2_7 Xf3_7 Xf4_7 Xf5_7 Pf0_8 Pf1_8
    replace X := X.later (kh9.mono X.lt)
    replace P := P.later (kh9.mono P.lt)
    replace hS := hS.later kh9
    have kB9 := kB6.trans (kh9.mono kB6.size)
    clear kB6
    have kT9 := kT6.later kh9
    clear kT6
    clear kh9 
    have Xf0_10 := X.c0
    have Xf1_10 := X.c1
    have Xf2_10 := X.c2
    have Xf3_10 := X.c3
    have Xf4_10 := X.c4
    have Xf5_10 := X.c5
    have Pf0_11 := P.c0
    have Pf1_11 := P.c1
    go_wp2
    go_ret
    exact ⟨rfl, kB9⟩
  | true =>
    rw [hf] at hFe
    obtain ⟨fd, ft, fs⟩ := few_sizes hf
    simp only at fd ft fs
    by_cases hc : chk ⟨ep, nu, ki, xs, da, tx⟩ = 0
    · have hEn : ∀ (w : World) (T : Tab w) (h : Sl w a n xs), _ := fun w T h => encode_rec_any ep nu ki a n cap xs da tx w T h ht hd
      obtain ⟨z1, z2, z3⟩ := enc_sizes hc
      have hcut := fun (c : Nat) (h : c < (enc ⟨ep, nu, ki, xs, da, tx⟩).size) => dR_cut hc h
      have htur := fun (p : Nat) (h : p < (enc ⟨ep, nu, ki, xs, da, tx⟩).size) (h0 : x ≠ 0) => tur_err hc h hx h0
      obtain ⟨q3, q4⟩ := nd_need (chk_head hc)
      have h19 := body_hn (chk_head hc) (more 0 (bs da))
      rw [encR, if_pos hc, hc] at hEn
      rw [hc] at hCk
      simp only at z2 q4 h19
      have hsz : (enc ⟨ep, nu, ki, xs, da, tx⟩).size ≤ 1000000 := by omega
      generalize enc ⟨ep, nu, ki, xs, da, tx⟩ = E at *
      have hDc : ∀ (c : Nat) (h : c < E.size) (w : World) (T : Tab w), Calls Tryd.prog 20 #[.string (E.extract 0 c)] w fun e w' => ∃ v', e = .returned (.tuple #[.agg #[.int .i64 0, .int .i64 0, .int .i64 0, v', .string ⟨#[]⟩, .string ⟨#[]⟩], .int .i64 0, .int .i64 10]) ∧ Own w' v' [] ∧ From w.heap.size v' ∧ Below w.heap.size w w' := by
        intro c h w T
        have := decode_rec_any (E.extract 0 c) (by rw [ByteArray.size_extract]; omega) w T
        rw [hcut c h] at this
        exact this
      have hN : ∀ (w : World) (a : Option Addr) (cap : Nat) (h : Sl w a 0 []), _ := fun w a cap h => none_any 0 0 0 a 0 cap [] ⟨#[]⟩ ⟨#[]⟩ w h
      rw [show sameB ⟨0, 0, 0, [], ⟨#[]⟩, ⟨#[]⟩⟩ no = true by decide +kernel] at hN
      clear hf hc z1 z2 z3 hcut q3 q4 h19
      by_cases a1 : at1 < 0
      · clear htur
        by_cases d1 : ct < 0
        · clear hDc
          go_enter Tryd.func6, Tryd.ntmps6
          have kh1 := below_alloc W (.cells #[.int .i64 ep, .int .i64 nu, .int .i64 ki, .slice a n cap, .string da, .string tx] 24)
          replace hS := hS.later kh1
          have kB1 := kh1
          have kT1 := T.later kh1
          have X := boxR W (ep) (nu) (ki) (.slice a n cap) (da) (tx) 24
          generalize kW1 : W.alloc (.cells #[.int .i64 ep, .int .i64 nu, .int .i64 ki, .slice a n cap, .string da, .string tx] 24) = kw1 at *
          clear kh1
          have Xf0_2 := X.c0
          have Xf1_2 := X.c1
          have Xf2_2 := X.c2
          have Xf3_2 := X.c3
          have Xf4_2 := X.c4
          have Xf5_2 := X.c5
          have kh3 := below_alloc kw1 (.cells #[.int .i64 at1, .int .i64 ct] 51)
          replace X := X.later (kh3.mono X.lt)
          replace hS := hS.later kh3
          have kB3 := kB1.trans (kh3.mono kB1.size)
          clear kB1
          have kT3 := kT1.later kh3
          clear kT1
          have P := box2 kw1 at1 ct 51
          generalize kW3 : kw1.alloc (.cells #[.int .i64 at1, .int .i64 ct] 51) = kw3 at *
          clear kh3
          clear Xf0_2 Xf1_2 Xf2_2 Xf3_2 Xf4_2 Xf5_2
          have Xf0_4 := X.c0
          have Xf1_4 := X.c1
          have Xf2_4 := X.c2
          have Xf3_4 := X.c3
          have Xf4_4 := X.c4
          have Xf5_4 := X.c5
          have Pf0_5 := P.c0
          have Pf1_5 := P.c1
          go_wp2_with fail
          refine (hFe _).mono ?_
          rintro e kw6 ⟨rfl, kh6⟩
          clear Xf0_4 Xf1_4 Xf2_4 Xf3_4 Xf4_4 Xf5_4 Pf0_5 Pf1_5 kW1 kW3
          replace X := X.later (kh6.mono X.lt)
          replace P := P.later (kh6.mono P.lt)
          replace hS := hS.later kh6
          have kB6 := kB3.trans (kh6.mono kB3.size)
          clear kB3
          have kT6 := kT3.later kh6
          clear kT3
          clear kh6 hFe
          have Xf0_7 := X.c0
          have Xf1_7 := X.c1
          have Xf2_7 := X.c2
          have Xf3_7 := X.c3
          have Xf4_7 := X.c4
          have Xf5_7 := X.c5
          have Pf0_8 := P.c0
          have Pf1_8 := P.c1
          go_wp2_with fail
          refine (hPl _).mono ?_
          rintro e kw9 ⟨rfl, kh9⟩
          clear Xf0_7 Xf1_7 Xf2_7 Xf3_7 Xf4_7 Xf5_7 Pf0_8 Pf1_8
          replace X := X.later (kh9.mono X.lt)
          replace P := P.later (kh9.mono P.lt)
          replace hS := hS.later kh9
          have kB9 := kB6.trans (kh9.mono kB6.size)
          clear kB6
          have kT9 := kT6.later kh9
          clear kT6
          clear kh9 hPl
          have Xf0_10 := X.c0
          have Xf1_10 := X.c1
          have Xf2_10 := X.c2
          have Xf3_10 := X.c3
          have Xf4_10 := X.c4
          have Xf5_10 := X.c5
          have Pf0_11 := P.c0
          have Pf1_11 := P.c1
          go_wp2_with fail
          refine (hCk _ hS).mono ?_
          rintro e kw12 ⟨rfl, kh12⟩
          clear Xf0_10 Xf1_10 Xf2_10 Xf3_10 Xf4_10 Xf5_10 Pf0_11 Pf1_11
          replace X := X.later (kh12.mono X.lt)
          replace P := P.later (kh12.mono P.lt)
          replace hS := hS.later kh12
          have kB12 := kB9.trans (kh12.mono kB9.size)
          clear kB9
          have kT12 := kT9.later kh12
          clear kT9
          clear kh12 hCk
          have Xf0_13 := X.c0
          have Xf1_13 := X.c1
          have Xf2_13 := X.c2
          have Xf3_13 := X.c3
          have Xf4_13 := X.c4
          have Xf5_13 := X.c5
          have Pf0_14 := P.c0
          have Pf1_14 := P.c1
          go_wp2_with fail
          refine (hEn _ kT12 hS).mono ?_
          rintro e kw15 ⟨rfl, kh15⟩
          clear Xf0_13 Xf1_13 Xf2_13 Xf3_13 Xf4_13 Xf5_13 Pf0_14 Pf1_14
          replace X := X.later (kh15.mono X.lt)
          replace P := P.later (kh15.mono P.lt)
          replace hS := hS.later kh15
          have kB15 := kB12.trans (kh15.mono kB12.size)
          clear kB12
          have kT15 := kT12.later kh15
          clear kT12
          clear kh15 hEn
          have Xf0_16 := X.c0
          have Xf1_16 := X.c1
          have Xf2_16 := X.c2
          have Xf3_16 := X.c3
          have Xf4_16 := X.c4
          have Xf5_16 := X.c5
          have Pf0_17 := P.c0
          have Pf1_17 := P.c1
          go_wp2_with fail
          refine (awake_any _ kT15).mono ?_
          rintro e kw18 ⟨rfl, kh18⟩
          clear Xf0_16 Xf1_16 Xf2_16 Xf3_16 Xf4_16 Xf5_16 Pf0_17 Pf1_17
          replace X := X.later (kh18.mono X.lt)
          replace P := P.later (kh18.mono P.lt)
          replace hS := hS.later kh18
          have kB18 := kB15.trans (kh18.mono kB15.size)
          clear kB15
          have kT18 := kT15.later kh18
          clear kT15
          clear kh18 
          have Xf0_19 := X.c0
          have Xf1_19 := X.c1
          have Xf2_19 := X.c2
          have Xf3_19 := X.c3
          have Xf4_19 := X.c4
          have Xf5_19 := X.c5
          have Pf0_20 := P.c0
          have Pf1_20 := P.c1
          go_wp2
          go_ret
          exact ⟨rfl, kB18⟩
        · by_cases d2 : (E.size : Int) ≤ ct
          · clear hDc
            go_enter Tryd.func6, Tryd.ntmps6
            have kh1 := below_alloc W (.cells #[.int .i64 ep, .int .i64 nu, .int .i64 ki, .slice a n cap, .string da, .string tx] 24)
            replace hS := hS.later kh1
            have kB1 := kh1
            have kT1 := T.later kh1
            have X := boxR W (ep) (nu) (ki) (.slice a n cap) (da) (tx) 24
            generalize kW1 : W.alloc (.cells #[.int .i64 ep, .int .i64 nu, .int .i64 ki, .slice a n cap, .string da, .string tx] 24) = kw1 at *
            clear kh1
            have Xf0_2 := X.c0
            have Xf1_2 := X.c1
            have Xf2_2 := X.c2
            have Xf3_2 := X.c3
            have Xf4_2 := X.c4
            have Xf5_2 := X.c5
            have kh3 := below_alloc kw1 (.cells #[.int .i64 at1, .int .i64 ct] 51)
            replace X := X.later (kh3.mono X.lt)
            replace hS := hS.later kh3
            have kB3 := kB1.trans (kh3.mono kB1.size)
            clear kB1
            have kT3 := kT1.later kh3
            clear kT1
            have P := box2 kw1 at1 ct 51
            generalize kW3 : kw1.alloc (.cells #[.int .i64 at1, .int .i64 ct] 51) = kw3 at *
            clear kh3
            clear Xf0_2 Xf1_2 Xf2_2 Xf3_2 Xf4_2 Xf5_2
            have Xf0_4 := X.c0
            have Xf1_4 := X.c1
            have Xf2_4 := X.c2
            have Xf3_4 := X.c3
            have Xf4_4 := X.c4
            have Xf5_4 := X.c5
            have Pf0_5 := P.c0
            have Pf1_5 := P.c1
            go_wp2_with fail
            refine (hFe _).mono ?_
            rintro e kw6 ⟨rfl, kh6⟩
            clear Xf0_4 Xf1_4 Xf2_4 Xf3_4 Xf4_4 Xf5_4 Pf0_5 Pf1_5 kW1 kW3
            replace X := X.later (kh6.mono X.lt)
            replace P := P.later (kh6.mono P.lt)
            replace hS := hS.later kh6
            have kB6 := kB3.trans (kh6.mono kB3.size)
            clear kB3
            have kT6 := kT3.later kh6
            clear kT3
            clear kh6 hFe
            have Xf0_7 := X.c0
            have Xf1_7 := X.c1
            have Xf2_7 := X.c2
            have Xf3_7 := X.c3
            have Xf4_7 := X.c4
            have Xf5_7 := X.c5
            have Pf0_8 := P.c0
            have Pf1_8 := P.c1
            go_wp2_with fail
            refine (hPl _).mono ?_
            rintro e kw9 ⟨rfl, kh9⟩
            clear Xf0_7 Xf1_7 Xf2_7 Xf3_7 Xf4_7 Xf5_7 Pf0_8 Pf1_8
            replace X := X.later (kh9.mono X.lt)
            replace P := P.later (kh9.mono P.lt)
            replace hS := hS.later kh9
            have kB9 := kB6.trans (kh9.mono kB6.size)
            clear kB6
            have kT9 := kT6.later kh9
            clear kT6
            clear kh9 hPl
            have Xf0_10 := X.c0
            have Xf1_10 := X.c1
            have Xf2_10 := X.c2
            have Xf3_10 := X.c3
            have Xf4_10 := X.c4
            have Xf5_10 := X.c5
            have Pf0_11 := P.c0
            have Pf1_11 := P.c1
            go_wp2_with fail
            refine (hCk _ hS).mono ?_
            rintro e kw12 ⟨rfl, kh12⟩
            clear Xf0_10 Xf1_10 Xf2_10 Xf3_10 Xf4_10 Xf5_10 Pf0_11 Pf1_11
            replace X := X.later (kh12.mono X.lt)
            replace P := P.later (kh12.mono P.lt)
            replace hS := hS.later kh12
            have kB12 := kB9.trans (kh12.mono kB9.size)
            clear kB9
            have kT12 := kT9.later kh12
            clear kT9
            clear kh12 hCk
            have Xf0_13 := X.c0
            have Xf1_13 := X.c1
            have Xf2_13 := X.c2
            have Xf3_13 := X.c3
            have Xf4_13 := X.c4
            have Xf5_13 := X.c5
            have Pf0_14 := P.c0
            have Pf1_14 := P.c1
            go_wp2_with fail
            refine (hEn _ kT12 hS).mono ?_
            rintro e kw15 ⟨rfl, kh15⟩
            clear Xf0_13 Xf1_13 Xf2_13 Xf3_13 Xf4_13 Xf5_13 Pf0_14 Pf1_14
            replace X := X.later (kh15.mono X.lt)
            replace P := P.later (kh15.mono P.lt)
            replace hS := hS.later kh15
            have kB15 := kB12.trans (kh15.mono kB12.size)
            clear kB12
            have kT15 := kT12.later kh15
            clear kT12
            clear kh15 hEn
            have Xf0_16 := X.c0
            have Xf1_16 := X.c1
            have Xf2_16 := X.c2
            have Xf3_16 := X.c3
            have Xf4_16 := X.c4
            have Xf5_16 := X.c5
            have Pf0_17 := P.c0
            have Pf1_17 := P.c1
            go_wp2_with fail
            refine (awake_any _ kT15).mono ?_
            rintro e kw18 ⟨rfl, kh18⟩
            clear Xf0_16 Xf1_16 Xf2_16 Xf3_16 Xf4_16 Xf5_16 Pf0_17 Pf1_17
            replace X := X.later (kh18.mono X.lt)
            replace P := P.later (kh18.mono P.lt)
            replace hS := hS.later kh18
            have kB18 := kB15.trans (kh18.mono kB15.size)
            clear kB15
            have kT18 := kT15.later kh18
            clear kT15
            clear kh18 
            have Xf0_19 := X.c0
            have Xf1_19 := X.c1
            have Xf2_19 := X.c2
            have Xf3_19 := X.c3
            have Xf4_19 := X.c4
            have Xf5_19 := X.c5
            have Pf0_20 := P.c0
            have Pf1_20 := P.c1
            go_wp2
            go_ret
            exact ⟨rfl, kB18⟩
          · obtain ⟨c, rfl⟩ := Int.eq_ofNat_of_zero_le (show 0 ≤ ct by omega)
            have hcl : c < E.size := by omega
            have hcl2 : c ≤ E.size := by omega
            replace hDc := fun (w : World) (T : Tab w) => hDc c hcl w T
            go_enter Tryd.func6, Tryd.ntmps6
            have kh1 := below_alloc W (.cells #[.int .i64 ep, .int .i64 nu, .int .i64 ki, .slice a n cap, .string da, .string tx] 24)
            replace hS := hS.later kh1
            have kB1 := kh1
            have kT1 := T.later kh1
            have X := boxR W (ep) (nu) (ki) (.slice a n cap) (da) (tx) 24
            generalize kW1 : W.alloc (.cells #[.int .i64 ep, .int .i64 nu, .int .i64 ki, .slice a n cap, .string da, .string tx] 24) = kw1 at *
            clear kh1
            have Xf0_2 := X.c0
            have Xf1_2 := X.c1
            have Xf2_2 := X.c2
            have Xf3_2 := X.c3
            have Xf4_2 := X.c4
            have Xf5_2 := X.c5
            have kh3 := below_alloc kw1 (.cells #[.int .i64 at1, .int .i64 ((c : Nat) : Int)] 51)
            replace X := X.later (kh3.mono X.lt)
            replace hS := hS.later kh3
            have kB3 := kB1.trans (kh3.mono kB1.size)
            clear kB1
            have kT3 := kT1.later kh3
            clear kT1
            have P := box2 kw1 at1 ((c : Nat) : Int) 51
            generalize kW3 : kw1.alloc (.cells #[.int .i64 at1, .int .i64 ((c : Nat) : Int)] 51) = kw3 at *
            clear kh3
            clear Xf0_2 Xf1_2 Xf2_2 Xf3_2 Xf4_2 Xf5_2
            have Xf0_4 := X.c0
            have Xf1_4 := X.c1
            have Xf2_4 := X.c2
            have Xf3_4 := X.c3
            have Xf4_4 := X.c4
            have Xf5_4 := X.c5
            have Pf0_5 := P.c0
            have Pf1_5 := P.c1
            go_wp2_with fail
            refine (hFe _).mono ?_
            rintro e kw6 ⟨rfl, kh6⟩
            clear Xf0_4 Xf1_4 Xf2_4 Xf3_4 Xf4_4 Xf5_4 Pf0_5 Pf1_5 kW1 kW3
            replace X := X.later (kh6.mono X.lt)
            replace P := P.later (kh6.mono P.lt)
            replace hS := hS.later kh6
            have kB6 := kB3.trans (kh6.mono kB3.size)
            clear kB3
            have kT6 := kT3.later kh6
            clear kT3
            clear kh6 hFe
            have Xf0_7 := X.c0
            have Xf1_7 := X.c1
            have Xf2_7 := X.c2
            have Xf3_7 := X.c3
            have Xf4_7 := X.c4
            have Xf5_7 := X.c5
            have Pf0_8 := P.c0
            have Pf1_8 := P.c1
            go_wp2_with fail
            refine (hPl _).mono ?_
            rintro e kw9 ⟨rfl, kh9⟩
            clear Xf0_7 Xf1_7 Xf2_7 Xf3_7 Xf4_7 Xf5_7 Pf0_8 Pf1_8
            replace X := X.later (kh9.mono X.lt)
            replace P := P.later (kh9.mono P.lt)
            replace hS := hS.later kh9
            have kB9 := kB6.trans (kh9.mono kB6.size)
            clear kB6
            have kT9 := kT6.later kh9
            clear kT6
            clear kh9 hPl
            have Xf0_10 := X.c0
            have Xf1_10 := X.c1
            have Xf2_10 := X.c2
            have Xf3_10 := X.c3
            have Xf4_10 := X.c4
            have Xf5_10 := X.c5
            have Pf0_11 := P.c0
            have Pf1_11 := P.c1
            go_wp2_with fail
            refine (hCk _ hS).mono ?_
            rintro e kw12 ⟨rfl, kh12⟩
            clear Xf0_10 Xf1_10 Xf2_10 Xf3_10 Xf4_10 Xf5_10 Pf0_11 Pf1_11
            replace X := X.later (kh12.mono X.lt)
            replace P := P.later (kh12.mono P.lt)
            replace hS := hS.later kh12
            have kB12 := kB9.trans (kh12.mono kB9.size)
            clear kB9
            have kT12 := kT9.later kh12
            clear kT9
            clear kh12 hCk
            have Xf0_13 := X.c0
            have Xf1_13 := X.c1
            have Xf2_13 := X.c2
            have Xf3_13 := X.c3
            have Xf4_13 := X.c4
            have Xf5_13 := X.c5
            have Pf0_14 := P.c0
            have Pf1_14 := P.c1
            go_wp2_with fail
            refine (hEn _ kT12 hS).mono ?_
            rintro e kw15 ⟨rfl, kh15⟩
            clear Xf0_13 Xf1_13 Xf2_13 Xf3_13 Xf4_13 Xf5_13 Pf0_14 Pf1_14
            replace X := X.later (kh15.mono X.lt)
            replace P := P.later (kh15.mono P.lt)
            replace hS := hS.later kh15
            have kB15 := kB12.trans (kh15.mono kB12.size)
            clear kB12
            have kT15 := kT12.later kh15
            clear kT12
            clear kh15 hEn
            have Xf0_16 := X.c0
            have Xf1_16 := X.c1
            have Xf2_16 := X.c2
            have Xf3_16 := X.c3
            have Xf4_16 := X.c4
            have Xf5_16 := X.c5
            have Pf0_17 := P.c0
            have Pf1_17 := P.c1
            go_wp2_with fail
            refine (hDc _ kT15).mono ?_
            rintro e kw18 ⟨v2, rfl, hO, hF, kh18⟩
            clear Xf0_16 Xf1_16 Xf2_16 Xf3_16 Xf4_16 Xf5_16 Pf0_17 Pf1_17
            replace X := X.later (kh18.mono X.lt)
            replace P := P.later (kh18.mono P.lt)
            replace hS := hS.later kh18
            have kB18 := kB15.trans (kh18.mono kB15.size)
            clear kB15
            have kT18 := kT15.later kh18
            clear kT15
            clear kh18 hDc
            clear hF
            obtain ⟨b2, cp2, rfl, hQ2⟩ := hO.sl (by simp)
            simp only [List.length_nil] at hQ2
            clear hO
            have Xf0_19 := X.c0
            have Xf1_19 := X.c1
            have Xf2_19 := X.c2
            have Xf3_19 := X.c3
            have Xf4_19 := X.c4
            have Xf5_19 := X.c5
            have Pf0_20 := P.c0
            have Pf1_20 := P.c1
            have kh21 := below_alloc kw18 (.cells #[.int .i64 0, .int .i64 0, .int .i64 0, .slice b2 0 cp2, .string ⟨#[]⟩, .string ⟨#[]⟩] 24)
            replace X := X.later (kh21.mono X.lt)
            replace P := P.later (kh21.mono P.lt)
            replace hS := hS.later kh21
            replace hQ2 := hQ2.later kh21
            have kB21 := kB18.trans (kh21.mono kB18.size)
            clear kB18
            have kT21 := kT18.later kh21
            clear kT18
            have Z := boxR kw18 (0) (0) (0) (.slice b2 0 cp2) (⟨#[]⟩) (⟨#[]⟩) 24
            clear kh21
            clear Xf0_19 Xf1_19 Xf2_19 Xf3_19 Xf4_19 Xf5_19 Pf0_20 Pf1_20
            have Xf0_22 := X.c0
            have Xf1_22 := X.c1
            have Xf2_22 := X.c2
            have Xf3_22 := X.c3
            have Xf4_22 := X.c4
            have Xf5_22 := X.c5
            have Pf0_23 := P.c0
            have Pf1_23 := P.c1
            have Zf0_24 := Z.c0
            have Zf1_24 := Z.c1
            have Zf2_24 := Z.c2
            have Zf3_24 := Z.c3
            have Zf4_24 := Z.c4
            have Zf5_24 := Z.c5
            go_wp2_with fail
            refine (hN _ b2 cp2 hQ2).mono ?_
            rintro e kw25 ⟨rfl, kh25⟩
            clear Xf0_22 Xf1_22 Xf2_22 Xf3_22 Xf4_22 Xf5_22 Pf0_23 Pf1_23 Zf0_24 Zf1_24 Zf2_24 Zf3_24 Zf4_24 Zf5_24
            replace X := X.later (kh25.mono X.lt)
            replace P := P.later (kh25.mono P.lt)
            replace Z := Z.later (kh25.mono Z.lt)
            replace hS := hS.later kh25
            replace hQ2 := hQ2.later kh25
            have kB25 := kB21.trans (kh25.mono kB21.size)
            clear kB21
            have kT25 := kT21.later kh25
            clear kT21
            clear kh25 
            have Xf0_26 := X.c0
            have Xf1_26 := X.c1
            have Xf2_26 := X.c2
            have Xf3_26 := X.c3
            have Xf4_26 := X.c4
            have Xf5_26 := X.c5
            have Pf0_27 := P.c0
            have Pf1_27 := P.c1
            have Zf0_28 := Z.c0
            have Zf1_28 := Z.c1
            have Zf2_28 := Z.c2
            have Zf3_28 := Z.c3
            have Zf4_28 := Z.c4
            have Zf5_28 := Z.c5
            go_wp2_with fail
            refine (awake_any _ kT25).mono ?_
            rintro e kw29 ⟨rfl, kh29⟩
            clear Xf0_26 Xf1_26 Xf2_26 Xf3_26 Xf4_26 Xf5_26 Pf0_27 Pf1_27 Zf0_28 Zf1_28 Zf2_28 Zf3_28 Zf4_28 Zf5_28
            replace X := X.later (kh29.mono X.lt)
            replace P := P.later (kh29.mono P.lt)
            replace Z := Z.later (kh29.mono Z.lt)
            replace hS := hS.later kh29
            replace hQ2 := hQ2.later kh29
            have kB29 := kB25.trans (kh29.mono kB25.size)
            clear kB25
            have kT29 := kT25.later kh29
            clear kT25
            clear kh29 
            have Xf0_30 := X.c0
            have Xf1_30 := X.c1
            have Xf2_30 := X.c2
            have Xf3_30 := X.c3
            have Xf4_30 := X.c4
            have Xf5_30 := X.c5
            have Pf0_31 := P.c0
            have Pf1_31 := P.c1
            have Zf0_32 := Z.c0
            have Zf1_32 := Z.c1
            have Zf2_32 := Z.c2
            have Zf3_32 := Z.c3
            have Zf4_32 := Z.c4
            have Zf5_32 := Z.c5
            go_wp2
            go_ret
            exact ⟨rfl, kB29⟩
      · by_cases a2 : (E.size : Int) ≤ at1
        · clear htur
          by_cases d1 : ct < 0
          · clear hDc
            go_enter Tryd.func6, Tryd.ntmps6
            have kh1 := below_alloc W (.cells #[.int .i64 ep, .int .i64 nu, .int .i64 ki, .slice a n cap, .string da, .string tx] 24)
            replace hS := hS.later kh1
            have kB1 := kh1
            have kT1 := T.later kh1
            have X := boxR W (ep) (nu) (ki) (.slice a n cap) (da) (tx) 24
            generalize kW1 : W.alloc (.cells #[.int .i64 ep, .int .i64 nu, .int .i64 ki, .slice a n cap, .string da, .string tx] 24) = kw1 at *
            clear kh1
            have Xf0_2 := X.c0
            have Xf1_2 := X.c1
            have Xf2_2 := X.c2
            have Xf3_2 := X.c3
            have Xf4_2 := X.c4
            have Xf5_2 := X.c5
            have kh3 := below_alloc kw1 (.cells #[.int .i64 at1, .int .i64 ct] 51)
            replace X := X.later (kh3.mono X.lt)
            replace hS := hS.later kh3
            have kB3 := kB1.trans (kh3.mono kB1.size)
            clear kB1
            have kT3 := kT1.later kh3
            clear kT1
            have P := box2 kw1 at1 ct 51
            generalize kW3 : kw1.alloc (.cells #[.int .i64 at1, .int .i64 ct] 51) = kw3 at *
            clear kh3
            clear Xf0_2 Xf1_2 Xf2_2 Xf3_2 Xf4_2 Xf5_2
            have Xf0_4 := X.c0
            have Xf1_4 := X.c1
            have Xf2_4 := X.c2
            have Xf3_4 := X.c3
            have Xf4_4 := X.c4
            have Xf5_4 := X.c5
            have Pf0_5 := P.c0
            have Pf1_5 := P.c1
            go_wp2_with fail
            refine (hFe _).mono ?_
            rintro e kw6 ⟨rfl, kh6⟩
            clear Xf0_4 Xf1_4 Xf2_4 Xf3_4 Xf4_4 Xf5_4 Pf0_5 Pf1_5 kW1 kW3
            replace X := X.later (kh6.mono X.lt)
            replace P := P.later (kh6.mono P.lt)
            replace hS := hS.later kh6
            have kB6 := kB3.trans (kh6.mono kB3.size)
            clear kB3
            have kT6 := kT3.later kh6
            clear kT3
            clear kh6 hFe
            have Xf0_7 := X.c0
            have Xf1_7 := X.c1
            have Xf2_7 := X.c2
            have Xf3_7 := X.c3
            have Xf4_7 := X.c4
            have Xf5_7 := X.c5
            have Pf0_8 := P.c0
            have Pf1_8 := P.c1
            go_wp2_with fail
            refine (hPl _).mono ?_
            rintro e kw9 ⟨rfl, kh9⟩
            clear Xf0_7 Xf1_7 Xf2_7 Xf3_7 Xf4_7 Xf5_7 Pf0_8 Pf1_8
            replace X := X.later (kh9.mono X.lt)
            replace P := P.later (kh9.mono P.lt)
            replace hS := hS.later kh9
            have kB9 := kB6.trans (kh9.mono kB6.size)
            clear kB6
            have kT9 := kT6.later kh9
            clear kT6
            clear kh9 hPl
            have Xf0_10 := X.c0
            have Xf1_10 := X.c1
            have Xf2_10 := X.c2
            have Xf3_10 := X.c3
            have Xf4_10 := X.c4
            have Xf5_10 := X.c5
            have Pf0_11 := P.c0
            have Pf1_11 := P.c1
            go_wp2_with fail
            refine (hCk _ hS).mono ?_
            rintro e kw12 ⟨rfl, kh12⟩
            clear Xf0_10 Xf1_10 Xf2_10 Xf3_10 Xf4_10 Xf5_10 Pf0_11 Pf1_11
            replace X := X.later (kh12.mono X.lt)
            replace P := P.later (kh12.mono P.lt)
            replace hS := hS.later kh12
            have kB12 := kB9.trans (kh12.mono kB9.size)
            clear kB9
            have kT12 := kT9.later kh12
            clear kT9
            clear kh12 hCk
            have Xf0_13 := X.c0
            have Xf1_13 := X.c1
            have Xf2_13 := X.c2
            have Xf3_13 := X.c3
            have Xf4_13 := X.c4
            have Xf5_13 := X.c5
            have Pf0_14 := P.c0
            have Pf1_14 := P.c1
            go_wp2_with fail
            refine (hEn _ kT12 hS).mono ?_
            rintro e kw15 ⟨rfl, kh15⟩
            clear Xf0_13 Xf1_13 Xf2_13 Xf3_13 Xf4_13 Xf5_13 Pf0_14 Pf1_14
            replace X := X.later (kh15.mono X.lt)
            replace P := P.later (kh15.mono P.lt)
            replace hS := hS.later kh15
            have kB15 := kB12.trans (kh15.mono kB12.size)
            clear kB12
            have kT15 := kT12.later kh15
            clear kT12
            clear kh15 hEn
            have Xf0_16 := X.c0
            have Xf1_16 := X.c1
            have Xf2_16 := X.c2
            have Xf3_16 := X.c3
            have Xf4_16 := X.c4
            have Xf5_16 := X.c5
            have Pf0_17 := P.c0
            have Pf1_17 := P.c1
            go_wp2_with fail
            refine (awake_any _ kT15).mono ?_
            rintro e kw18 ⟨rfl, kh18⟩
            clear Xf0_16 Xf1_16 Xf2_16 Xf3_16 Xf4_16 Xf5_16 Pf0_17 Pf1_17
            replace X := X.later (kh18.mono X.lt)
            replace P := P.later (kh18.mono P.lt)
            replace hS := hS.later kh18
            have kB18 := kB15.trans (kh18.mono kB15.size)
            clear kB15
            have kT18 := kT15.later kh18
            clear kT15
            clear kh18 
            have Xf0_19 := X.c0
            have Xf1_19 := X.c1
            have Xf2_19 := X.c2
            have Xf3_19 := X.c3
            have Xf4_19 := X.c4
            have Xf5_19 := X.c5
            have Pf0_20 := P.c0
            have Pf1_20 := P.c1
            go_wp2
            go_ret
            exact ⟨rfl, kB18⟩
          · by_cases d2 : (E.size : Int) ≤ ct
            · clear hDc
              go_enter Tryd.func6, Tryd.ntmps6
              have kh1 := below_alloc W (.cells #[.int .i64 ep, .int .i64 nu, .int .i64 ki, .slice a n cap, .string da, .string tx] 24)
              replace hS := hS.later kh1
              have kB1 := kh1
              have kT1 := T.later kh1
              have X := boxR W (ep) (nu) (ki) (.slice a n cap) (da) (tx) 24
              generalize kW1 : W.alloc (.cells #[.int .i64 ep, .int .i64 nu, .int .i64 ki, .slice a n cap, .string da, .string tx] 24) = kw1 at *
              clear kh1
              have Xf0_2 := X.c0
              have Xf1_2 := X.c1
              have Xf2_2 := X.c2
              have Xf3_2 := X.c3
              have Xf4_2 := X.c4
              have Xf5_2 := X.c5
              have kh3 := below_alloc kw1 (.cells #[.int .i64 at1, .int .i64 ct] 51)
              replace X := X.later (kh3.mono X.lt)
              replace hS := hS.later kh3
              have kB3 := kB1.trans (kh3.mono kB1.size)
              clear kB1
              have kT3 := kT1.later kh3
              clear kT1
              have P := box2 kw1 at1 ct 51
              generalize kW3 : kw1.alloc (.cells #[.int .i64 at1, .int .i64 ct] 51) = kw3 at *
              clear kh3
              clear Xf0_2 Xf1_2 Xf2_2 Xf3_2 Xf4_2 Xf5_2
              have Xf0_4 := X.c0
              have Xf1_4 := X.c1
              have Xf2_4 := X.c2
              have Xf3_4 := X.c3
              have Xf4_4 := X.c4
              have Xf5_4 := X.c5
              have Pf0_5 := P.c0
              have Pf1_5 := P.c1
              go_wp2_with fail
              refine (hFe _).mono ?_
              rintro e kw6 ⟨rfl, kh6⟩
              clear Xf0_4 Xf1_4 Xf2_4 Xf3_4 Xf4_4 Xf5_4 Pf0_5 Pf1_5 kW1 kW3
              replace X := X.later (kh6.mono X.lt)
              replace P := P.later (kh6.mono P.lt)
              replace hS := hS.later kh6
              have kB6 := kB3.trans (kh6.mono kB3.size)
              clear kB3
              have kT6 := kT3.later kh6
              clear kT3
              clear kh6 hFe
              have Xf0_7 := X.c0
              have Xf1_7 := X.c1
              have Xf2_7 := X.c2
              have Xf3_7 := X.c3
              have Xf4_7 := X.c4
              have Xf5_7 := X.c5
              have Pf0_8 := P.c0
              have Pf1_8 := P.c1
              go_wp2_with fail
              refine (hPl _).mono ?_
              rintro e kw9 ⟨rfl, kh9⟩
              clear Xf0_7 Xf1_7 Xf2_7 Xf3_7 Xf4_7 Xf5_7 Pf0_8 Pf1_8
              replace X := X.later (kh9.mono X.lt)
              replace P := P.later (kh9.mono P.lt)
              replace hS := hS.later kh9
              have kB9 := kB6.trans (kh9.mono kB6.size)
              clear kB6
              have kT9 := kT6.later kh9
              clear kT6
              clear kh9 hPl
              have Xf0_10 := X.c0
              have Xf1_10 := X.c1
              have Xf2_10 := X.c2
              have Xf3_10 := X.c3
              have Xf4_10 := X.c4
              have Xf5_10 := X.c5
              have Pf0_11 := P.c0
              have Pf1_11 := P.c1
              go_wp2_with fail
              refine (hCk _ hS).mono ?_
              rintro e kw12 ⟨rfl, kh12⟩
              clear Xf0_10 Xf1_10 Xf2_10 Xf3_10 Xf4_10 Xf5_10 Pf0_11 Pf1_11
              replace X := X.later (kh12.mono X.lt)
              replace P := P.later (kh12.mono P.lt)
              replace hS := hS.later kh12
              have kB12 := kB9.trans (kh12.mono kB9.size)
              clear kB9
              have kT12 := kT9.later kh12
              clear kT9
              clear kh12 hCk
              have Xf0_13 := X.c0
              have Xf1_13 := X.c1
              have Xf2_13 := X.c2
              have Xf3_13 := X.c3
              have Xf4_13 := X.c4
              have Xf5_13 := X.c5
              have Pf0_14 := P.c0
              have Pf1_14 := P.c1
              go_wp2_with fail
              refine (hEn _ kT12 hS).mono ?_
              rintro e kw15 ⟨rfl, kh15⟩
              clear Xf0_13 Xf1_13 Xf2_13 Xf3_13 Xf4_13 Xf5_13 Pf0_14 Pf1_14
              replace X := X.later (kh15.mono X.lt)
              replace P := P.later (kh15.mono P.lt)
              replace hS := hS.later kh15
              have kB15 := kB12.trans (kh15.mono kB12.size)
              clear kB12
              have kT15 := kT12.later kh15
              clear kT12
              clear kh15 hEn
              have Xf0_16 := X.c0
              have Xf1_16 := X.c1
              have Xf2_16 := X.c2
              have Xf3_16 := X.c3
              have Xf4_16 := X.c4
              have Xf5_16 := X.c5
              have Pf0_17 := P.c0
              have Pf1_17 := P.c1
              go_wp2_with fail
              refine (awake_any _ kT15).mono ?_
              rintro e kw18 ⟨rfl, kh18⟩
              clear Xf0_16 Xf1_16 Xf2_16 Xf3_16 Xf4_16 Xf5_16 Pf0_17 Pf1_17
              replace X := X.later (kh18.mono X.lt)
              replace P := P.later (kh18.mono P.lt)
              replace hS := hS.later kh18
              have kB18 := kB15.trans (kh18.mono kB15.size)
              clear kB15
              have kT18 := kT15.later kh18
              clear kT15
              clear kh18 
              have Xf0_19 := X.c0
              have Xf1_19 := X.c1
              have Xf2_19 := X.c2
              have Xf3_19 := X.c3
              have Xf4_19 := X.c4
              have Xf5_19 := X.c5
              have Pf0_20 := P.c0
              have Pf1_20 := P.c1
              go_wp2
              go_ret
              exact ⟨rfl, kB18⟩
            · obtain ⟨c, rfl⟩ := Int.eq_ofNat_of_zero_le (show 0 ≤ ct by omega)
              have hcl : c < E.size := by omega
              have hcl2 : c ≤ E.size := by omega
              replace hDc := fun (w : World) (T : Tab w) => hDc c hcl w T
              go_enter Tryd.func6, Tryd.ntmps6
              have kh1 := below_alloc W (.cells #[.int .i64 ep, .int .i64 nu, .int .i64 ki, .slice a n cap, .string da, .string tx] 24)
              replace hS := hS.later kh1
              have kB1 := kh1
              have kT1 := T.later kh1
              have X := boxR W (ep) (nu) (ki) (.slice a n cap) (da) (tx) 24
              generalize kW1 : W.alloc (.cells #[.int .i64 ep, .int .i64 nu, .int .i64 ki, .slice a n cap, .string da, .string tx] 24) = kw1 at *
              clear kh1
              have Xf0_2 := X.c0
              have Xf1_2 := X.c1
              have Xf2_2 := X.c2
              have Xf3_2 := X.c3
              have Xf4_2 := X.c4
              have Xf5_2 := X.c5
              have kh3 := below_alloc kw1 (.cells #[.int .i64 at1, .int .i64 ((c : Nat) : Int)] 51)
              replace X := X.later (kh3.mono X.lt)
              replace hS := hS.later kh3
              have kB3 := kB1.trans (kh3.mono kB1.size)
              clear kB1
              have kT3 := kT1.later kh3
              clear kT1
              have P := box2 kw1 at1 ((c : Nat) : Int) 51
              generalize kW3 : kw1.alloc (.cells #[.int .i64 at1, .int .i64 ((c : Nat) : Int)] 51) = kw3 at *
              clear kh3
              clear Xf0_2 Xf1_2 Xf2_2 Xf3_2 Xf4_2 Xf5_2
              have Xf0_4 := X.c0
              have Xf1_4 := X.c1
              have Xf2_4 := X.c2
              have Xf3_4 := X.c3
              have Xf4_4 := X.c4
              have Xf5_4 := X.c5
              have Pf0_5 := P.c0
              have Pf1_5 := P.c1
              go_wp2_with fail
              refine (hFe _).mono ?_
              rintro e kw6 ⟨rfl, kh6⟩
              clear Xf0_4 Xf1_4 Xf2_4 Xf3_4 Xf4_4 Xf5_4 Pf0_5 Pf1_5 kW1 kW3
              replace X := X.later (kh6.mono X.lt)
              replace P := P.later (kh6.mono P.lt)
              replace hS := hS.later kh6
              have kB6 := kB3.trans (kh6.mono kB3.size)
              clear kB3
              have kT6 := kT3.later kh6
              clear kT3
              clear kh6 hFe
              have Xf0_7 := X.c0
              have Xf1_7 := X.c1
              have Xf2_7 := X.c2
              have Xf3_7 := X.c3
              have Xf4_7 := X.c4
              have Xf5_7 := X.c5
              have Pf0_8 := P.c0
              have Pf1_8 := P.c1
              go_wp2_with fail
              refine (hPl _).mono ?_
              rintro e kw9 ⟨rfl, kh9⟩
              clear Xf0_7 Xf1_7 Xf2_7 Xf3_7 Xf4_7 Xf5_7 Pf0_8 Pf1_8
              replace X := X.later (kh9.mono X.lt)
              replace P := P.later (kh9.mono P.lt)
              replace hS := hS.later kh9
              have kB9 := kB6.trans (kh9.mono kB6.size)
              clear kB6
              have kT9 := kT6.later kh9
              clear kT6
              clear kh9 hPl
              have Xf0_10 := X.c0
              have Xf1_10 := X.c1
              have Xf2_10 := X.c2
              have Xf3_10 := X.c3
              have Xf4_10 := X.c4
              have Xf5_10 := X.c5
              have Pf0_11 := P.c0
              have Pf1_11 := P.c1
              go_wp2_with fail
              refine (hCk _ hS).mono ?_
              rintro e kw12 ⟨rfl, kh12⟩
              clear Xf0_10 Xf1_10 Xf2_10 Xf3_10 Xf4_10 Xf5_10 Pf0_11 Pf1_11
              replace X := X.later (kh12.mono X.lt)
              replace P := P.later (kh12.mono P.lt)
              replace hS := hS.later kh12
              have kB12 := kB9.trans (kh12.mono kB9.size)
              clear kB9
              have kT12 := kT9.later kh12
              clear kT9
              clear kh12 hCk
              have Xf0_13 := X.c0
              have Xf1_13 := X.c1
              have Xf2_13 := X.c2
              have Xf3_13 := X.c3
              have Xf4_13 := X.c4
              have Xf5_13 := X.c5
              have Pf0_14 := P.c0
              have Pf1_14 := P.c1
              go_wp2_with fail
              refine (hEn _ kT12 hS).mono ?_
              rintro e kw15 ⟨rfl, kh15⟩
              clear Xf0_13 Xf1_13 Xf2_13 Xf3_13 Xf4_13 Xf5_13 Pf0_14 Pf1_14
              replace X := X.later (kh15.mono X.lt)
              replace P := P.later (kh15.mono P.lt)
              replace hS := hS.later kh15
              have kB15 := kB12.trans (kh15.mono kB12.size)
              clear kB12
              have kT15 := kT12.later kh15
              clear kT12
              clear kh15 hEn
              have Xf0_16 := X.c0
              have Xf1_16 := X.c1
              have Xf2_16 := X.c2
              have Xf3_16 := X.c3
              have Xf4_16 := X.c4
              have Xf5_16 := X.c5
              have Pf0_17 := P.c0
              have Pf1_17 := P.c1
              go_wp2_with fail
              refine (hDc _ kT15).mono ?_
              rintro e kw18 ⟨v2, rfl, hO, hF, kh18⟩
              clear Xf0_16 Xf1_16 Xf2_16 Xf3_16 Xf4_16 Xf5_16 Pf0_17 Pf1_17
              replace X := X.later (kh18.mono X.lt)
              replace P := P.later (kh18.mono P.lt)
              replace hS := hS.later kh18
              have kB18 := kB15.trans (kh18.mono kB15.size)
              clear kB15
              have kT18 := kT15.later kh18
              clear kT15
              clear kh18 hDc
              clear hF
              obtain ⟨b2, cp2, rfl, hQ2⟩ := hO.sl (by simp)
              simp only [List.length_nil] at hQ2
              clear hO
              have Xf0_19 := X.c0
              have Xf1_19 := X.c1
              have Xf2_19 := X.c2
              have Xf3_19 := X.c3
              have Xf4_19 := X.c4
              have Xf5_19 := X.c5
              have Pf0_20 := P.c0
              have Pf1_20 := P.c1
              have kh21 := below_alloc kw18 (.cells #[.int .i64 0, .int .i64 0, .int .i64 0, .slice b2 0 cp2, .string ⟨#[]⟩, .string ⟨#[]⟩] 24)
              replace X := X.later (kh21.mono X.lt)
              replace P := P.later (kh21.mono P.lt)
              replace hS := hS.later kh21
              replace hQ2 := hQ2.later kh21
              have kB21 := kB18.trans (kh21.mono kB18.size)
              clear kB18
              have kT21 := kT18.later kh21
              clear kT18
              have Z := boxR kw18 (0) (0) (0) (.slice b2 0 cp2) (⟨#[]⟩) (⟨#[]⟩) 24
              clear kh21
              clear Xf0_19 Xf1_19 Xf2_19 Xf3_19 Xf4_19 Xf5_19 Pf0_20 Pf1_20
              have Xf0_22 := X.c0
              have Xf1_22 := X.c1
              have Xf2_22 := X.c2
              have Xf3_22 := X.c3
              have Xf4_22 := X.c4
              have Xf5_22 := X.c5
              have Pf0_23 := P.c0
              have Pf1_23 := P.c1
              have Zf0_24 := Z.c0
              have Zf1_24 := Z.c1
              have Zf2_24 := Z.c2
              have Zf3_24 := Z.c3
              have Zf4_24 := Z.c4
              have Zf5_24 := Z.c5
              go_wp2_with fail
              refine (hN _ b2 cp2 hQ2).mono ?_
              rintro e kw25 ⟨rfl, kh25⟩
              clear Xf0_22 Xf1_22 Xf2_22 Xf3_22 Xf4_22 Xf5_22 Pf0_23 Pf1_23 Zf0_24 Zf1_24 Zf2_24 Zf3_24 Zf4_24 Zf5_24
              replace X := X.later (kh25.mono X.lt)
              replace P := P.later (kh25.mono P.lt)
              replace Z := Z.later (kh25.mono Z.lt)
              replace hS := hS.later kh25
              replace hQ2 := hQ2.later kh25
              have kB25 := kB21.trans (kh25.mono kB21.size)
              clear kB21
              have kT25 := kT21.later kh25
              clear kT21
              clear kh25 
              have Xf0_26 := X.c0
              have Xf1_26 := X.c1
              have Xf2_26 := X.c2
              have Xf3_26 := X.c3
              have Xf4_26 := X.c4
              have Xf5_26 := X.c5
              have Pf0_27 := P.c0
              have Pf1_27 := P.c1
              have Zf0_28 := Z.c0
              have Zf1_28 := Z.c1
              have Zf2_28 := Z.c2
              have Zf3_28 := Z.c3
              have Zf4_28 := Z.c4
              have Zf5_28 := Z.c5
              go_wp2_with fail
              refine (awake_any _ kT25).mono ?_
              rintro e kw29 ⟨rfl, kh29⟩
              clear Xf0_26 Xf1_26 Xf2_26 Xf3_26 Xf4_26 Xf5_26 Pf0_27 Pf1_27 Zf0_28 Zf1_28 Zf2_28 Zf3_28 Zf4_28 Zf5_28
              replace X := X.later (kh29.mono X.lt)
              replace P := P.later (kh29.mono P.lt)
              replace Z := Z.later (kh29.mono Z.lt)
              replace hS := hS.later kh29
              replace hQ2 := hQ2.later kh29
              have kB29 := kB25.trans (kh29.mono kB25.size)
              clear kB25
              have kT29 := kT25.later kh29
              clear kT25
              clear kh29 
              have Xf0_30 := X.c0
              have Xf1_30 := X.c1
              have Xf2_30 := X.c2
              have Xf3_30 := X.c3
              have Xf4_30 := X.c4
              have Xf5_30 := X.c5
              have Pf0_31 := P.c0
              have Pf1_31 := P.c1
              have Zf0_32 := Z.c0
              have Zf1_32 := Z.c1
              have Zf2_32 := Z.c2
              have Zf3_32 := Z.c3
              have Zf4_32 := Z.c4
              have Zf5_32 := Z.c5
              go_wp2
              go_ret
              exact ⟨rfl, kB29⟩
        · by_cases a3 : x = 0
          · subst a3
            clear htur
            by_cases d1 : ct < 0
            · clear hDc
              go_enter Tryd.func6, Tryd.ntmps6
              have kh1 := below_alloc W (.cells #[.int .i64 ep, .int .i64 nu, .int .i64 ki, .slice a n cap, .string da, .string tx] 24)
              replace hS := hS.later kh1
              have kB1 := kh1
              have kT1 := T.later kh1
              have X := boxR W (ep) (nu) (ki) (.slice a n cap) (da) (tx) 24
              generalize kW1 : W.alloc (.cells #[.int .i64 ep, .int .i64 nu, .int .i64 ki, .slice a n cap, .string da, .string tx] 24) = kw1 at *
              clear kh1
              have Xf0_2 := X.c0
              have Xf1_2 := X.c1
              have Xf2_2 := X.c2
              have Xf3_2 := X.c3
              have Xf4_2 := X.c4
              have Xf5_2 := X.c5
              have kh3 := below_alloc kw1 (.cells #[.int .i64 at1, .int .i64 ct] 51)
              replace X := X.later (kh3.mono X.lt)
              replace hS := hS.later kh3
              have kB3 := kB1.trans (kh3.mono kB1.size)
              clear kB1
              have kT3 := kT1.later kh3
              clear kT1
              have P := box2 kw1 at1 ct 51
              generalize kW3 : kw1.alloc (.cells #[.int .i64 at1, .int .i64 ct] 51) = kw3 at *
              clear kh3
              clear Xf0_2 Xf1_2 Xf2_2 Xf3_2 Xf4_2 Xf5_2
              have Xf0_4 := X.c0
              have Xf1_4 := X.c1
              have Xf2_4 := X.c2
              have Xf3_4 := X.c3
              have Xf4_4 := X.c4
              have Xf5_4 := X.c5
              have Pf0_5 := P.c0
              have Pf1_5 := P.c1
              go_wp2_with fail
              refine (hFe _).mono ?_
              rintro e kw6 ⟨rfl, kh6⟩
              clear Xf0_4 Xf1_4 Xf2_4 Xf3_4 Xf4_4 Xf5_4 Pf0_5 Pf1_5 kW1 kW3
              replace X := X.later (kh6.mono X.lt)
              replace P := P.later (kh6.mono P.lt)
              replace hS := hS.later kh6
              have kB6 := kB3.trans (kh6.mono kB3.size)
              clear kB3
              have kT6 := kT3.later kh6
              clear kT3
              clear kh6 hFe
              have Xf0_7 := X.c0
              have Xf1_7 := X.c1
              have Xf2_7 := X.c2
              have Xf3_7 := X.c3
              have Xf4_7 := X.c4
              have Xf5_7 := X.c5
              have Pf0_8 := P.c0
              have Pf1_8 := P.c1
              go_wp2_with fail
              refine (hPl _).mono ?_
              rintro e kw9 ⟨rfl, kh9⟩
              clear Xf0_7 Xf1_7 Xf2_7 Xf3_7 Xf4_7 Xf5_7 Pf0_8 Pf1_8
              replace X := X.later (kh9.mono X.lt)
              replace P := P.later (kh9.mono P.lt)
              replace hS := hS.later kh9
              have kB9 := kB6.trans (kh9.mono kB6.size)
              clear kB6
              have kT9 := kT6.later kh9
              clear kT6
              clear kh9 hPl
              have Xf0_10 := X.c0
              have Xf1_10 := X.c1
              have Xf2_10 := X.c2
              have Xf3_10 := X.c3
              have Xf4_10 := X.c4
              have Xf5_10 := X.c5
              have Pf0_11 := P.c0
              have Pf1_11 := P.c1
              go_wp2_with fail
              refine (hCk _ hS).mono ?_
              rintro e kw12 ⟨rfl, kh12⟩
              clear Xf0_10 Xf1_10 Xf2_10 Xf3_10 Xf4_10 Xf5_10 Pf0_11 Pf1_11
              replace X := X.later (kh12.mono X.lt)
              replace P := P.later (kh12.mono P.lt)
              replace hS := hS.later kh12
              have kB12 := kB9.trans (kh12.mono kB9.size)
              clear kB9
              have kT12 := kT9.later kh12
              clear kT9
              clear kh12 hCk
              have Xf0_13 := X.c0
              have Xf1_13 := X.c1
              have Xf2_13 := X.c2
              have Xf3_13 := X.c3
              have Xf4_13 := X.c4
              have Xf5_13 := X.c5
              have Pf0_14 := P.c0
              have Pf1_14 := P.c1
              go_wp2_with fail
              refine (hEn _ kT12 hS).mono ?_
              rintro e kw15 ⟨rfl, kh15⟩
              clear Xf0_13 Xf1_13 Xf2_13 Xf3_13 Xf4_13 Xf5_13 Pf0_14 Pf1_14
              replace X := X.later (kh15.mono X.lt)
              replace P := P.later (kh15.mono P.lt)
              replace hS := hS.later kh15
              have kB15 := kB12.trans (kh15.mono kB12.size)
              clear kB12
              have kT15 := kT12.later kh15
              clear kT12
              clear kh15 hEn
              have Xf0_16 := X.c0
              have Xf1_16 := X.c1
              have Xf2_16 := X.c2
              have Xf3_16 := X.c3
              have Xf4_16 := X.c4
              have Xf5_16 := X.c5
              have Pf0_17 := P.c0
              have Pf1_17 := P.c1
              go_wp2_with fail
              refine (awake_any _ kT15).mono ?_
              rintro e kw18 ⟨rfl, kh18⟩
              clear Xf0_16 Xf1_16 Xf2_16 Xf3_16 Xf4_16 Xf5_16 Pf0_17 Pf1_17
              replace X := X.later (kh18.mono X.lt)
              replace P := P.later (kh18.mono P.lt)
              replace hS := hS.later kh18
              have kB18 := kB15.trans (kh18.mono kB15.size)
              clear kB15
              have kT18 := kT15.later kh18
              clear kT15
              clear kh18 
              have Xf0_19 := X.c0
              have Xf1_19 := X.c1
              have Xf2_19 := X.c2
              have Xf3_19 := X.c3
              have Xf4_19 := X.c4
              have Xf5_19 := X.c5
              have Pf0_20 := P.c0
              have Pf1_20 := P.c1
              go_wp2
              go_ret
              exact ⟨rfl, kB18⟩
            · by_cases d2 : (E.size : Int) ≤ ct
              · clear hDc
                go_enter Tryd.func6, Tryd.ntmps6
                have kh1 := below_alloc W (.cells #[.int .i64 ep, .int .i64 nu, .int .i64 ki, .slice a n cap, .string da, .string tx] 24)
                replace hS := hS.later kh1
                have kB1 := kh1
                have kT1 := T.later kh1
                have X := boxR W (ep) (nu) (ki) (.slice a n cap) (da) (tx) 24
                generalize kW1 : W.alloc (.cells #[.int .i64 ep, .int .i64 nu, .int .i64 ki, .slice a n cap, .string da, .string tx] 24) = kw1 at *
                clear kh1
                have Xf0_2 := X.c0
                have Xf1_2 := X.c1
                have Xf2_2 := X.c2
                have Xf3_2 := X.c3
                have Xf4_2 := X.c4
                have Xf5_2 := X.c5
                have kh3 := below_alloc kw1 (.cells #[.int .i64 at1, .int .i64 ct] 51)
                replace X := X.later (kh3.mono X.lt)
                replace hS := hS.later kh3
                have kB3 := kB1.trans (kh3.mono kB1.size)
                clear kB1
                have kT3 := kT1.later kh3
                clear kT1
                have P := box2 kw1 at1 ct 51
                generalize kW3 : kw1.alloc (.cells #[.int .i64 at1, .int .i64 ct] 51) = kw3 at *
                clear kh3
                clear Xf0_2 Xf1_2 Xf2_2 Xf3_2 Xf4_2 Xf5_2
                have Xf0_4 := X.c0
                have Xf1_4 := X.c1
                have Xf2_4 := X.c2
                have Xf3_4 := X.c3
                have Xf4_4 := X.c4
                have Xf5_4 := X.c5
                have Pf0_5 := P.c0
                have Pf1_5 := P.c1
                go_wp2_with fail
                refine (hFe _).mono ?_
                rintro e kw6 ⟨rfl, kh6⟩
                clear Xf0_4 Xf1_4 Xf2_4 Xf3_4 Xf4_4 Xf5_4 Pf0_5 Pf1_5 kW1 kW3
                replace X := X.later (kh6.mono X.lt)
                replace P := P.later (kh6.mono P.lt)
                replace hS := hS.later kh6
                have kB6 := kB3.trans (kh6.mono kB3.size)
                clear kB3
                have kT6 := kT3.later kh6
                clear kT3
                clear kh6 hFe
                have Xf0_7 := X.c0
                have Xf1_7 := X.c1
                have Xf2_7 := X.c2
                have Xf3_7 := X.c3
                have Xf4_7 := X.c4
                have Xf5_7 := X.c5
                have Pf0_8 := P.c0
                have Pf1_8 := P.c1
                go_wp2_with fail
                refine (hPl _).mono ?_
                rintro e kw9 ⟨rfl, kh9⟩
                clear Xf0_7 Xf1_7 Xf2_7 Xf3_7 Xf4_7 Xf5_7 Pf0_8 Pf1_8
                replace X := X.later (kh9.mono X.lt)
                replace P := P.later (kh9.mono P.lt)
                replace hS := hS.later kh9
                have kB9 := kB6.trans (kh9.mono kB6.size)
                clear kB6
                have kT9 := kT6.later kh9
                clear kT6
                clear kh9 hPl
                have Xf0_10 := X.c0
                have Xf1_10 := X.c1
                have Xf2_10 := X.c2
                have Xf3_10 := X.c3
                have Xf4_10 := X.c4
                have Xf5_10 := X.c5
                have Pf0_11 := P.c0
                have Pf1_11 := P.c1
                go_wp2_with fail
                refine (hCk _ hS).mono ?_
                rintro e kw12 ⟨rfl, kh12⟩
                clear Xf0_10 Xf1_10 Xf2_10 Xf3_10 Xf4_10 Xf5_10 Pf0_11 Pf1_11
                replace X := X.later (kh12.mono X.lt)
                replace P := P.later (kh12.mono P.lt)
                replace hS := hS.later kh12
                have kB12 := kB9.trans (kh12.mono kB9.size)
                clear kB9
                have kT12 := kT9.later kh12
                clear kT9
                clear kh12 hCk
                have Xf0_13 := X.c0
                have Xf1_13 := X.c1
                have Xf2_13 := X.c2
                have Xf3_13 := X.c3
                have Xf4_13 := X.c4
                have Xf5_13 := X.c5
                have Pf0_14 := P.c0
                have Pf1_14 := P.c1
                go_wp2_with fail
                refine (hEn _ kT12 hS).mono ?_
                rintro e kw15 ⟨rfl, kh15⟩
                clear Xf0_13 Xf1_13 Xf2_13 Xf3_13 Xf4_13 Xf5_13 Pf0_14 Pf1_14
                replace X := X.later (kh15.mono X.lt)
                replace P := P.later (kh15.mono P.lt)
                replace hS := hS.later kh15
                have kB15 := kB12.trans (kh15.mono kB12.size)
                clear kB12
                have kT15 := kT12.later kh15
                clear kT12
                clear kh15 hEn
                have Xf0_16 := X.c0
                have Xf1_16 := X.c1
                have Xf2_16 := X.c2
                have Xf3_16 := X.c3
                have Xf4_16 := X.c4
                have Xf5_16 := X.c5
                have Pf0_17 := P.c0
                have Pf1_17 := P.c1
                go_wp2_with fail
                refine (awake_any _ kT15).mono ?_
                rintro e kw18 ⟨rfl, kh18⟩
                clear Xf0_16 Xf1_16 Xf2_16 Xf3_16 Xf4_16 Xf5_16 Pf0_17 Pf1_17
                replace X := X.later (kh18.mono X.lt)
                replace P := P.later (kh18.mono P.lt)
                replace hS := hS.later kh18
                have kB18 := kB15.trans (kh18.mono kB15.size)
                clear kB15
                have kT18 := kT15.later kh18
                clear kT15
                clear kh18 
                have Xf0_19 := X.c0
                have Xf1_19 := X.c1
                have Xf2_19 := X.c2
                have Xf3_19 := X.c3
                have Xf4_19 := X.c4
                have Xf5_19 := X.c5
                have Pf0_20 := P.c0
                have Pf1_20 := P.c1
                go_wp2
                go_ret
                exact ⟨rfl, kB18⟩
              · obtain ⟨c, rfl⟩ := Int.eq_ofNat_of_zero_le (show 0 ≤ ct by omega)
                have hcl : c < E.size := by omega
                have hcl2 : c ≤ E.size := by omega
                replace hDc := fun (w : World) (T : Tab w) => hDc c hcl w T
                go_enter Tryd.func6, Tryd.ntmps6
                have kh1 := below_alloc W (.cells #[.int .i64 ep, .int .i64 nu, .int .i64 ki, .slice a n cap, .string da, .string tx] 24)
                replace hS := hS.later kh1
                have kB1 := kh1
                have kT1 := T.later kh1
                have X := boxR W (ep) (nu) (ki) (.slice a n cap) (da) (tx) 24
                generalize kW1 : W.alloc (.cells #[.int .i64 ep, .int .i64 nu, .int .i64 ki, .slice a n cap, .string da, .string tx] 24) = kw1 at *
                clear kh1
                have Xf0_2 := X.c0
                have Xf1_2 := X.c1
                have Xf2_2 := X.c2
                have Xf3_2 := X.c3
                have Xf4_2 := X.c4
                have Xf5_2 := X.c5
                have kh3 := below_alloc kw1 (.cells #[.int .i64 at1, .int .i64 ((c : Nat) : Int)] 51)
                replace X := X.later (kh3.mono X.lt)
                replace hS := hS.later kh3
                have kB3 := kB1.trans (kh3.mono kB1.size)
                clear kB1
                have kT3 := kT1.later kh3
                clear kT1
                have P := box2 kw1 at1 ((c : Nat) : Int) 51
                generalize kW3 : kw1.alloc (.cells #[.int .i64 at1, .int .i64 ((c : Nat) : Int)] 51) = kw3 at *
                clear kh3
                clear Xf0_2 Xf1_2 Xf2_2 Xf3_2 Xf4_2 Xf5_2
                have Xf0_4 := X.c0
                have Xf1_4 := X.c1
                have Xf2_4 := X.c2
                have Xf3_4 := X.c3
                have Xf4_4 := X.c4
                have Xf5_4 := X.c5
                have Pf0_5 := P.c0
                have Pf1_5 := P.c1
                go_wp2_with fail
                refine (hFe _).mono ?_
                rintro e kw6 ⟨rfl, kh6⟩
                clear Xf0_4 Xf1_4 Xf2_4 Xf3_4 Xf4_4 Xf5_4 Pf0_5 Pf1_5 kW1 kW3
                replace X := X.later (kh6.mono X.lt)
                replace P := P.later (kh6.mono P.lt)
                replace hS := hS.later kh6
                have kB6 := kB3.trans (kh6.mono kB3.size)
                clear kB3
                have kT6 := kT3.later kh6
                clear kT3
                clear kh6 hFe
                have Xf0_7 := X.c0
                have Xf1_7 := X.c1
                have Xf2_7 := X.c2
                have Xf3_7 := X.c3
                have Xf4_7 := X.c4
                have Xf5_7 := X.c5
                have Pf0_8 := P.c0
                have Pf1_8 := P.c1
                go_wp2_with fail
                refine (hPl _).mono ?_
                rintro e kw9 ⟨rfl, kh9⟩
                clear Xf0_7 Xf1_7 Xf2_7 Xf3_7 Xf4_7 Xf5_7 Pf0_8 Pf1_8
                replace X := X.later (kh9.mono X.lt)
                replace P := P.later (kh9.mono P.lt)
                replace hS := hS.later kh9
                have kB9 := kB6.trans (kh9.mono kB6.size)
                clear kB6
                have kT9 := kT6.later kh9
                clear kT6
                clear kh9 hPl
                have Xf0_10 := X.c0
                have Xf1_10 := X.c1
                have Xf2_10 := X.c2
                have Xf3_10 := X.c3
                have Xf4_10 := X.c4
                have Xf5_10 := X.c5
                have Pf0_11 := P.c0
                have Pf1_11 := P.c1
                go_wp2_with fail
                refine (hCk _ hS).mono ?_
                rintro e kw12 ⟨rfl, kh12⟩
                clear Xf0_10 Xf1_10 Xf2_10 Xf3_10 Xf4_10 Xf5_10 Pf0_11 Pf1_11
                replace X := X.later (kh12.mono X.lt)
                replace P := P.later (kh12.mono P.lt)
                replace hS := hS.later kh12
                have kB12 := kB9.trans (kh12.mono kB9.size)
                clear kB9
                have kT12 := kT9.later kh12
                clear kT9
                clear kh12 hCk
                have Xf0_13 := X.c0
                have Xf1_13 := X.c1
                have Xf2_13 := X.c2
                have Xf3_13 := X.c3
                have Xf4_13 := X.c4
                have Xf5_13 := X.c5
                have Pf0_14 := P.c0
                have Pf1_14 := P.c1
                go_wp2_with fail
                refine (hEn _ kT12 hS).mono ?_
                rintro e kw15 ⟨rfl, kh15⟩
                clear Xf0_13 Xf1_13 Xf2_13 Xf3_13 Xf4_13 Xf5_13 Pf0_14 Pf1_14
                replace X := X.later (kh15.mono X.lt)
                replace P := P.later (kh15.mono P.lt)
                replace hS := hS.later kh15
                have kB15 := kB12.trans (kh15.mono kB12.size)
                clear kB12
                have kT15 := kT12.later kh15
                clear kT12
                clear kh15 hEn
                have Xf0_16 := X.c0
                have Xf1_16 := X.c1
                have Xf2_16 := X.c2
                have Xf3_16 := X.c3
                have Xf4_16 := X.c4
                have Xf5_16 := X.c5
                have Pf0_17 := P.c0
                have Pf1_17 := P.c1
                go_wp2_with fail
                refine (hDc _ kT15).mono ?_
                rintro e kw18 ⟨v2, rfl, hO, hF, kh18⟩
                clear Xf0_16 Xf1_16 Xf2_16 Xf3_16 Xf4_16 Xf5_16 Pf0_17 Pf1_17
                replace X := X.later (kh18.mono X.lt)
                replace P := P.later (kh18.mono P.lt)
                replace hS := hS.later kh18
                have kB18 := kB15.trans (kh18.mono kB15.size)
                clear kB15
                have kT18 := kT15.later kh18
                clear kT15
                clear kh18 hDc
                clear hF
                obtain ⟨b2, cp2, rfl, hQ2⟩ := hO.sl (by simp)
                simp only [List.length_nil] at hQ2
                clear hO
                have Xf0_19 := X.c0
                have Xf1_19 := X.c1
                have Xf2_19 := X.c2
                have Xf3_19 := X.c3
                have Xf4_19 := X.c4
                have Xf5_19 := X.c5
                have Pf0_20 := P.c0
                have Pf1_20 := P.c1
                have kh21 := below_alloc kw18 (.cells #[.int .i64 0, .int .i64 0, .int .i64 0, .slice b2 0 cp2, .string ⟨#[]⟩, .string ⟨#[]⟩] 24)
                replace X := X.later (kh21.mono X.lt)
                replace P := P.later (kh21.mono P.lt)
                replace hS := hS.later kh21
                replace hQ2 := hQ2.later kh21
                have kB21 := kB18.trans (kh21.mono kB18.size)
                clear kB18
                have kT21 := kT18.later kh21
                clear kT18
                have Z := boxR kw18 (0) (0) (0) (.slice b2 0 cp2) (⟨#[]⟩) (⟨#[]⟩) 24
                clear kh21
                clear Xf0_19 Xf1_19 Xf2_19 Xf3_19 Xf4_19 Xf5_19 Pf0_20 Pf1_20
                have Xf0_22 := X.c0
                have Xf1_22 := X.c1
                have Xf2_22 := X.c2
                have Xf3_22 := X.c3
                have Xf4_22 := X.c4
                have Xf5_22 := X.c5
                have Pf0_23 := P.c0
                have Pf1_23 := P.c1
                have Zf0_24 := Z.c0
                have Zf1_24 := Z.c1
                have Zf2_24 := Z.c2
                have Zf3_24 := Z.c3
                have Zf4_24 := Z.c4
                have Zf5_24 := Z.c5
                go_wp2_with fail
                refine (hN _ b2 cp2 hQ2).mono ?_
                rintro e kw25 ⟨rfl, kh25⟩
                clear Xf0_22 Xf1_22 Xf2_22 Xf3_22 Xf4_22 Xf5_22 Pf0_23 Pf1_23 Zf0_24 Zf1_24 Zf2_24 Zf3_24 Zf4_24 Zf5_24
                replace X := X.later (kh25.mono X.lt)
                replace P := P.later (kh25.mono P.lt)
                replace Z := Z.later (kh25.mono Z.lt)
                replace hS := hS.later kh25
                replace hQ2 := hQ2.later kh25
                have kB25 := kB21.trans (kh25.mono kB21.size)
                clear kB21
                have kT25 := kT21.later kh25
                clear kT21
                clear kh25 
                have Xf0_26 := X.c0
                have Xf1_26 := X.c1
                have Xf2_26 := X.c2
                have Xf3_26 := X.c3
                have Xf4_26 := X.c4
                have Xf5_26 := X.c5
                have Pf0_27 := P.c0
                have Pf1_27 := P.c1
                have Zf0_28 := Z.c0
                have Zf1_28 := Z.c1
                have Zf2_28 := Z.c2
                have Zf3_28 := Z.c3
                have Zf4_28 := Z.c4
                have Zf5_28 := Z.c5
                go_wp2_with fail
                refine (awake_any _ kT25).mono ?_
                rintro e kw29 ⟨rfl, kh29⟩
                clear Xf0_26 Xf1_26 Xf2_26 Xf3_26 Xf4_26 Xf5_26 Pf0_27 Pf1_27 Zf0_28 Zf1_28 Zf2_28 Zf3_28 Zf4_28 Zf5_28
                replace X := X.later (kh29.mono X.lt)
                replace P := P.later (kh29.mono P.lt)
                replace Z := Z.later (kh29.mono Z.lt)
                replace hS := hS.later kh29
                replace hQ2 := hQ2.later kh29
                have kB29 := kB25.trans (kh29.mono kB25.size)
                clear kB25
                have kT29 := kT25.later kh29
                clear kT25
                clear kh29 
                have Xf0_30 := X.c0
                have Xf1_30 := X.c1
                have Xf2_30 := X.c2
                have Xf3_30 := X.c3
                have Xf4_30 := X.c4
                have Xf5_30 := X.c5
                have Pf0_31 := P.c0
                have Pf1_31 := P.c1
                have Zf0_32 := Z.c0
                have Zf1_32 := Z.c1
                have Zf2_32 := Z.c2
                have Zf3_32 := Z.c3
                have Zf4_32 := Z.c4
                have Zf5_32 := Z.c5
                go_wp2
                go_ret
                exact ⟨rfl, kB29⟩
          · obtain ⟨p, rfl⟩ := Int.eq_ofNat_of_zero_le (show 0 ≤ at1 by omega)
            have hp : p < E.size := by omega
            have a3' : ¬ ((x : Nat) : Int) = 0 := by omega
            have a3'' : (((x : Nat) : Int) == 0) = false := by simpa using a3
            have hlb : (bs E).getD p 0 < 256 := by
              have : p < (bs E).length := by rw [bs_length]; omega
              rw [List.getD_eq_getElem?_getD, List.getElem?_eq_getElem this]
              exact bs_lt E _ (List.getElem_mem this)
            obtain ⟨er, he0, htd⟩ := htur p hp a3
            have hDt : ∀ (w : World) (T : Tab w), Calls Tryd.prog 20 #[.string (tur E p x)] w fun e w' => ∃ v', e = .returned (.tuple #[.agg #[.int .i64 0, .int .i64 0, .int .i64 0, v', .string ⟨#[]⟩, .string ⟨#[]⟩], .int .i64 0, .int .i64 er]) ∧ Own w' v' [] ∧ From w.heap.size v' ∧ Below w.heap.size w w' := by
              intro w T
              have := decode_rec_any (tur E p x) (by rw [tur_size]; omega) w T
              rw [htd] at this
              exact this
            clear htur htd
            by_cases d1 : ct < 0
            · clear hDc
              go_enter Tryd.func6, Tryd.ntmps6
              have kh1 := below_alloc W (.cells #[.int .i64 ep, .int .i64 nu, .int .i64 ki, .slice a n cap, .string da, .string tx] 24)
              replace hS := hS.later kh1
              have kB1 := kh1
              have kT1 := T.later kh1
              have X := boxR W (ep) (nu) (ki) (.slice a n cap) (da) (tx) 24
              generalize kW1 : W.alloc (.cells #[.int .i64 ep, .int .i64 nu, .int .i64 ki, .slice a n cap, .string da, .string tx] 24) = kw1 at *
              clear kh1
              have Xf0_2 := X.c0
              have Xf1_2 := X.c1
              have Xf2_2 := X.c2
              have Xf3_2 := X.c3
              have Xf4_2 := X.c4
              have Xf5_2 := X.c5
              have kh3 := below_alloc kw1 (.cells #[.int .i64 ((p : Nat) : Int), .int .i64 ct] 51)
              replace X := X.later (kh3.mono X.lt)
              replace hS := hS.later kh3
              have kB3 := kB1.trans (kh3.mono kB1.size)
              clear kB1
              have kT3 := kT1.later kh3
              clear kT1
              have P := box2 kw1 ((p : Nat) : Int) ct 51
              generalize kW3 : kw1.alloc (.cells #[.int .i64 ((p : Nat) : Int), .int .i64 ct] 51) = kw3 at *
              clear kh3
              clear Xf0_2 Xf1_2 Xf2_2 Xf3_2 Xf4_2 Xf5_2
              have Xf0_4 := X.c0
              have Xf1_4 := X.c1
              have Xf2_4 := X.c2
              have Xf3_4 := X.c3
              have Xf4_4 := X.c4
              have Xf5_4 := X.c5
              have Pf0_5 := P.c0
              have Pf1_5 := P.c1
              go_wp2_with fail
              refine (hFe _).mono ?_
              rintro e kw6 ⟨rfl, kh6⟩
              clear Xf0_4 Xf1_4 Xf2_4 Xf3_4 Xf4_4 Xf5_4 Pf0_5 Pf1_5 kW1 kW3
              replace X := X.later (kh6.mono X.lt)
              replace P := P.later (kh6.mono P.lt)
              replace hS := hS.later kh6
              have kB6 := kB3.trans (kh6.mono kB3.size)
              clear kB3
              have kT6 := kT3.later kh6
              clear kT3
              clear kh6 hFe
              have Xf0_7 := X.c0
              have Xf1_7 := X.c1
              have Xf2_7 := X.c2
              have Xf3_7 := X.c3
              have Xf4_7 := X.c4
              have Xf5_7 := X.c5
              have Pf0_8 := P.c0
              have Pf1_8 := P.c1
              go_wp2_with fail
              refine (hPl _).mono ?_
              rintro e kw9 ⟨rfl, kh9⟩
              clear Xf0_7 Xf1_7 Xf2_7 Xf3_7 Xf4_7 Xf5_7 Pf0_8 Pf1_8
              replace X := X.later (kh9.mono X.lt)
              replace P := P.later (kh9.mono P.lt)
              replace hS := hS.later kh9
              have kB9 := kB6.trans (kh9.mono kB6.size)
              clear kB6
              have kT9 := kT6.later kh9
              clear kT6
              clear kh9 hPl
              have Xf0_10 := X.c0
              have Xf1_10 := X.c1
              have Xf2_10 := X.c2
              have Xf3_10 := X.c3
              have Xf4_10 := X.c4
              have Xf5_10 := X.c5
              have Pf0_11 := P.c0
              have Pf1_11 := P.c1
              go_wp2_with fail
              refine (hCk _ hS).mono ?_
              rintro e kw12 ⟨rfl, kh12⟩
              clear Xf0_10 Xf1_10 Xf2_10 Xf3_10 Xf4_10 Xf5_10 Pf0_11 Pf1_11
              replace X := X.later (kh12.mono X.lt)
              replace P := P.later (kh12.mono P.lt)
              replace hS := hS.later kh12
              have kB12 := kB9.trans (kh12.mono kB9.size)
              clear kB9
              have kT12 := kT9.later kh12
              clear kT9
              clear kh12 hCk
              have Xf0_13 := X.c0
              have Xf1_13 := X.c1
              have Xf2_13 := X.c2
              have Xf3_13 := X.c3
              have Xf4_13 := X.c4
              have Xf5_13 := X.c5
              have Pf0_14 := P.c0
              have Pf1_14 := P.c1
              go_wp2_with fail
              refine (hEn _ kT12 hS).mono ?_
              rintro e kw15 ⟨rfl, kh15⟩
              clear Xf0_13 Xf1_13 Xf2_13 Xf3_13 Xf4_13 Xf5_13 Pf0_14 Pf1_14
              replace X := X.later (kh15.mono X.lt)
              replace P := P.later (kh15.mono P.lt)
              replace hS := hS.later kh15
              have kB15 := kB12.trans (kh15.mono kB12.size)
              clear kB12
              have kT15 := kT12.later kh15
              clear kT12
              clear kh15 hEn
              have Xf0_16 := X.c0
              have Xf1_16 := X.c1
              have Xf2_16 := X.c2
              have Xf3_16 := X.c3
              have Xf4_16 := X.c4
              have Xf5_16 := X.c5
              have Pf0_17 := P.c0
              have Pf1_17 := P.c1
              obtain ⟨bcap, wb, hcv, R, BC⟩ := to_bytes E kw15
              have BB2 := kB15.trans (BC.mono kB15.size)
              have hge : W.heap.size ≤ kw15.heap.size := kB15.size
              have c1 := R.cell p hp
              have f1 := R.frozen p hp
              have hxr := u8_xor_nat ((bs E).getD p 0) x hlb hx
              have R3 := R.set hp ((bs E).getD p 0 ^^^ x)
              have B3 := below_set BB2 hge p (.int .u8 (((bs E).getD p 0 ^^^ x : Nat) : Int))
              have hc3 := R3.conv bcap
              rw [set_range (bs_length E)] at hc3
              change _ = Result.ok (Value.string (tur E p x)) _ at hc3
              have TT := T.later B3
              clear R R3 BC BB2
              generalize (bs E).getD p 0 = old at *
              generalize old ^^^ x = nw at *
              generalize tur E p x = E3 at *
              go_wp2_with fail
              refine (hDt _ TT).mono ?_
              rintro e w8 ⟨v1, rfl, hO, hF, b8⟩
              replace B3 := B3.trans (b8.mono B3.size)
              clear hF
              obtain ⟨b1, cp1, rfl, hQ1⟩ := hO.sl (by simp)
              simp only [List.length_nil] at hQ1
              clear hO
              clear hDt b8 TT hcv hc3 c1 f1 hxr hge Xf0_16 Xf1_16 Xf2_16 Xf3_16 Xf4_16 Xf5_16 Pf0_17 Pf1_17 X P hS kB15 kT15
              have TV := T.later B3
              have mh1 := below_alloc w8 (.cells #[.int .i64 0, .int .i64 0, .int .i64 0, .slice b1 0 cp1, .string ⟨#[]⟩, .string ⟨#[]⟩] 24)
              replace hQ1 := hQ1.later mh1
              have mB1 := B3.trans (mh1.mono B3.size)
              clear B3
              have mT1 := TV.later mh1
              clear TV
              have Y := boxR w8 (0) (0) (0) (.slice b1 0 cp1) (⟨#[]⟩) (⟨#[]⟩) 24
              clear mh1
              have Yf0_2 := Y.c0
              have Yf1_2 := Y.c1
              have Yf2_2 := Y.c2
              have Yf3_2 := Y.c3
              have Yf4_2 := Y.c4
              have Yf5_2 := Y.c5
              go_wp2_with fail
              refine (hN _ b1 cp1 hQ1).mono ?_
              rintro e mw3 ⟨rfl, mh3⟩
              clear Yf0_2 Yf1_2 Yf2_2 Yf3_2 Yf4_2 Yf5_2
              replace Y := Y.later (mh3.mono Y.lt)
              replace hQ1 := hQ1.later mh3
              have mB3 := mB1.trans (mh3.mono mB1.size)
              clear mB1
              have mT3 := mT1.later mh3
              clear mT1
              clear mh3 
              have Yf0_4 := Y.c0
              have Yf1_4 := Y.c1
              have Yf2_4 := Y.c2
              have Yf3_4 := Y.c3
              have Yf4_4 := Y.c4
              have Yf5_4 := Y.c5
              go_wp2_with fail
              refine (awake_any _ mT3).mono ?_
              rintro e mw5 ⟨rfl, mh5⟩
              clear Yf0_4 Yf1_4 Yf2_4 Yf3_4 Yf4_4 Yf5_4
              replace Y := Y.later (mh5.mono Y.lt)
              replace hQ1 := hQ1.later mh5
              have mB5 := mB3.trans (mh5.mono mB3.size)
              clear mB3
              have mT5 := mT3.later mh5
              clear mT3
              clear mh5 
              have Yf0_6 := Y.c0
              have Yf1_6 := Y.c1
              have Yf2_6 := Y.c2
              have Yf3_6 := Y.c3
              have Yf4_6 := Y.c4
              have Yf5_6 := Y.c5
              go_wp2
              go_ret
              exact ⟨rfl, mB5⟩
            · by_cases d2 : (E.size : Int) ≤ ct
              · clear hDc
                go_enter Tryd.func6, Tryd.ntmps6
                have kh1 := below_alloc W (.cells #[.int .i64 ep, .int .i64 nu, .int .i64 ki, .slice a n cap, .string da, .string tx] 24)
                replace hS := hS.later kh1
                have kB1 := kh1
                have kT1 := T.later kh1
                have X := boxR W (ep) (nu) (ki) (.slice a n cap) (da) (tx) 24
                generalize kW1 : W.alloc (.cells #[.int .i64 ep, .int .i64 nu, .int .i64 ki, .slice a n cap, .string da, .string tx] 24) = kw1 at *
                clear kh1
                have Xf0_2 := X.c0
                have Xf1_2 := X.c1
                have Xf2_2 := X.c2
                have Xf3_2 := X.c3
                have Xf4_2 := X.c4
                have Xf5_2 := X.c5
                have kh3 := below_alloc kw1 (.cells #[.int .i64 ((p : Nat) : Int), .int .i64 ct] 51)
                replace X := X.later (kh3.mono X.lt)
                replace hS := hS.later kh3
                have kB3 := kB1.trans (kh3.mono kB1.size)
                clear kB1
                have kT3 := kT1.later kh3
                clear kT1
                have P := box2 kw1 ((p : Nat) : Int) ct 51
                generalize kW3 : kw1.alloc (.cells #[.int .i64 ((p : Nat) : Int), .int .i64 ct] 51) = kw3 at *
                clear kh3
                clear Xf0_2 Xf1_2 Xf2_2 Xf3_2 Xf4_2 Xf5_2
                have Xf0_4 := X.c0
                have Xf1_4 := X.c1
                have Xf2_4 := X.c2
                have Xf3_4 := X.c3
                have Xf4_4 := X.c4
                have Xf5_4 := X.c5
                have Pf0_5 := P.c0
                have Pf1_5 := P.c1
                go_wp2_with fail
                refine (hFe _).mono ?_
                rintro e kw6 ⟨rfl, kh6⟩
                clear Xf0_4 Xf1_4 Xf2_4 Xf3_4 Xf4_4 Xf5_4 Pf0_5 Pf1_5 kW1 kW3
                replace X := X.later (kh6.mono X.lt)
                replace P := P.later (kh6.mono P.lt)
                replace hS := hS.later kh6
                have kB6 := kB3.trans (kh6.mono kB3.size)
                clear kB3
                have kT6 := kT3.later kh6
                clear kT3
                clear kh6 hFe
                have Xf0_7 := X.c0
                have Xf1_7 := X.c1
                have Xf2_7 := X.c2
                have Xf3_7 := X.c3
                have Xf4_7 := X.c4
                have Xf5_7 := X.c5
                have Pf0_8 := P.c0
                have Pf1_8 := P.c1
                go_wp2_with fail
                refine (hPl _).mono ?_
                rintro e kw9 ⟨rfl, kh9⟩
                clear Xf0_7 Xf1_7 Xf2_7 Xf3_7 Xf4_7 Xf5_7 Pf0_8 Pf1_8
                replace X := X.later (kh9.mono X.lt)
                replace P := P.later (kh9.mono P.lt)
                replace hS := hS.later kh9
                have kB9 := kB6.trans (kh9.mono kB6.size)
                clear kB6
                have kT9 := kT6.later kh9
                clear kT6
                clear kh9 hPl
                have Xf0_10 := X.c0
                have Xf1_10 := X.c1
                have Xf2_10 := X.c2
                have Xf3_10 := X.c3
                have Xf4_10 := X.c4
                have Xf5_10 := X.c5
                have Pf0_11 := P.c0
                have Pf1_11 := P.c1
                go_wp2_with fail
                refine (hCk _ hS).mono ?_
                rintro e kw12 ⟨rfl, kh12⟩
                clear Xf0_10 Xf1_10 Xf2_10 Xf3_10 Xf4_10 Xf5_10 Pf0_11 Pf1_11
                replace X := X.later (kh12.mono X.lt)
                replace P := P.later (kh12.mono P.lt)
                replace hS := hS.later kh12
                have kB12 := kB9.trans (kh12.mono kB9.size)
                clear kB9
                have kT12 := kT9.later kh12
                clear kT9
                clear kh12 hCk
                have Xf0_13 := X.c0
                have Xf1_13 := X.c1
                have Xf2_13 := X.c2
                have Xf3_13 := X.c3
                have Xf4_13 := X.c4
                have Xf5_13 := X.c5
                have Pf0_14 := P.c0
                have Pf1_14 := P.c1
                go_wp2_with fail
                refine (hEn _ kT12 hS).mono ?_
                rintro e kw15 ⟨rfl, kh15⟩
                clear Xf0_13 Xf1_13 Xf2_13 Xf3_13 Xf4_13 Xf5_13 Pf0_14 Pf1_14
                replace X := X.later (kh15.mono X.lt)
                replace P := P.later (kh15.mono P.lt)
                replace hS := hS.later kh15
                have kB15 := kB12.trans (kh15.mono kB12.size)
                clear kB12
                have kT15 := kT12.later kh15
                clear kT12
                clear kh15 hEn
                have Xf0_16 := X.c0
                have Xf1_16 := X.c1
                have Xf2_16 := X.c2
                have Xf3_16 := X.c3
                have Xf4_16 := X.c4
                have Xf5_16 := X.c5
                have Pf0_17 := P.c0
                have Pf1_17 := P.c1
                obtain ⟨bcap, wb, hcv, R, BC⟩ := to_bytes E kw15
                have BB2 := kB15.trans (BC.mono kB15.size)
                have hge : W.heap.size ≤ kw15.heap.size := kB15.size
                have c1 := R.cell p hp
                have f1 := R.frozen p hp
                have hxr := u8_xor_nat ((bs E).getD p 0) x hlb hx
                have R3 := R.set hp ((bs E).getD p 0 ^^^ x)
                have B3 := below_set BB2 hge p (.int .u8 (((bs E).getD p 0 ^^^ x : Nat) : Int))
                have hc3 := R3.conv bcap
                rw [set_range (bs_length E)] at hc3
                change _ = Result.ok (Value.string (tur E p x)) _ at hc3
                have TT := T.later B3
                clear R R3 BC BB2
                generalize (bs E).getD p 0 = old at *
                generalize old ^^^ x = nw at *
                generalize tur E p x = E3 at *
                go_wp2_with fail
                refine (hDt _ TT).mono ?_
                rintro e w8 ⟨v1, rfl, hO, hF, b8⟩
                replace B3 := B3.trans (b8.mono B3.size)
                clear hF
                obtain ⟨b1, cp1, rfl, hQ1⟩ := hO.sl (by simp)
                simp only [List.length_nil] at hQ1
                clear hO
                clear hDt b8 TT hcv hc3 c1 f1 hxr hge Xf0_16 Xf1_16 Xf2_16 Xf3_16 Xf4_16 Xf5_16 Pf0_17 Pf1_17 X P hS kB15 kT15
                have TV := T.later B3
                have mh1 := below_alloc w8 (.cells #[.int .i64 0, .int .i64 0, .int .i64 0, .slice b1 0 cp1, .string ⟨#[]⟩, .string ⟨#[]⟩] 24)
                replace hQ1 := hQ1.later mh1
                have mB1 := B3.trans (mh1.mono B3.size)
                clear B3
                have mT1 := TV.later mh1
                clear TV
                have Y := boxR w8 (0) (0) (0) (.slice b1 0 cp1) (⟨#[]⟩) (⟨#[]⟩) 24
                clear mh1
                have Yf0_2 := Y.c0
                have Yf1_2 := Y.c1
                have Yf2_2 := Y.c2
                have Yf3_2 := Y.c3
                have Yf4_2 := Y.c4
                have Yf5_2 := Y.c5
                go_wp2_with fail
                refine (hN _ b1 cp1 hQ1).mono ?_
                rintro e mw3 ⟨rfl, mh3⟩
                clear Yf0_2 Yf1_2 Yf2_2 Yf3_2 Yf4_2 Yf5_2
                replace Y := Y.later (mh3.mono Y.lt)
                replace hQ1 := hQ1.later mh3
                have mB3 := mB1.trans (mh3.mono mB1.size)
                clear mB1
                have mT3 := mT1.later mh3
                clear mT1
                clear mh3 
                have Yf0_4 := Y.c0
                have Yf1_4 := Y.c1
                have Yf2_4 := Y.c2
                have Yf3_4 := Y.c3
                have Yf4_4 := Y.c4
                have Yf5_4 := Y.c5
                go_wp2_with fail
                refine (awake_any _ mT3).mono ?_
                rintro e mw5 ⟨rfl, mh5⟩
                clear Yf0_4 Yf1_4 Yf2_4 Yf3_4 Yf4_4 Yf5_4
                replace Y := Y.later (mh5.mono Y.lt)
                replace hQ1 := hQ1.later mh5
                have mB5 := mB3.trans (mh5.mono mB3.size)
                clear mB3
                have mT5 := mT3.later mh5
                clear mT3
                clear mh5 
                have Yf0_6 := Y.c0
                have Yf1_6 := Y.c1
                have Yf2_6 := Y.c2
                have Yf3_6 := Y.c3
                have Yf4_6 := Y.c4
                have Yf5_6 := Y.c5
                go_wp2
                go_ret
                exact ⟨rfl, mB5⟩
              · obtain ⟨c, rfl⟩ := Int.eq_ofNat_of_zero_le (show 0 ≤ ct by omega)
                have hcl : c < E.size := by omega
                have hcl2 : c ≤ E.size := by omega
                replace hDc := fun (w : World) (T : Tab w) => hDc c hcl w T
                go_enter Tryd.func6, Tryd.ntmps6
                have kh1 := below_alloc W (.cells #[.int .i64 ep, .int .i64 nu, .int .i64 ki, .slice a n cap, .string da, .string tx] 24)
                replace hS := hS.later kh1
                have kB1 := kh1
                have kT1 := T.later kh1
                have X := boxR W (ep) (nu) (ki) (.slice a n cap) (da) (tx) 24
                generalize kW1 : W.alloc (.cells #[.int .i64 ep, .int .i64 nu, .int .i64 ki, .slice a n cap, .string da, .string tx] 24) = kw1 at *
                clear kh1
                have Xf0_2 := X.c0
                have Xf1_2 := X.c1
                have Xf2_2 := X.c2
                have Xf3_2 := X.c3
                have Xf4_2 := X.c4
                have Xf5_2 := X.c5
                have kh3 := below_alloc kw1 (.cells #[.int .i64 ((p : Nat) : Int), .int .i64 ((c : Nat) : Int)] 51)
                replace X := X.later (kh3.mono X.lt)
                replace hS := hS.later kh3
                have kB3 := kB1.trans (kh3.mono kB1.size)
                clear kB1
                have kT3 := kT1.later kh3
                clear kT1
                have P := box2 kw1 ((p : Nat) : Int) ((c : Nat) : Int) 51
                generalize kW3 : kw1.alloc (.cells #[.int .i64 ((p : Nat) : Int), .int .i64 ((c : Nat) : Int)] 51) = kw3 at *
                clear kh3
                clear Xf0_2 Xf1_2 Xf2_2 Xf3_2 Xf4_2 Xf5_2
                have Xf0_4 := X.c0
                have Xf1_4 := X.c1
                have Xf2_4 := X.c2
                have Xf3_4 := X.c3
                have Xf4_4 := X.c4
                have Xf5_4 := X.c5
                have Pf0_5 := P.c0
                have Pf1_5 := P.c1
                go_wp2_with fail
                refine (hFe _).mono ?_
                rintro e kw6 ⟨rfl, kh6⟩
                clear Xf0_4 Xf1_4 Xf2_4 Xf3_4 Xf4_4 Xf5_4 Pf0_5 Pf1_5 kW1 kW3
                replace X := X.later (kh6.mono X.lt)
                replace P := P.later (kh6.mono P.lt)
                replace hS := hS.later kh6
                have kB6 := kB3.trans (kh6.mono kB3.size)
                clear kB3
                have kT6 := kT3.later kh6
                clear kT3
                clear kh6 hFe
                have Xf0_7 := X.c0
                have Xf1_7 := X.c1
                have Xf2_7 := X.c2
                have Xf3_7 := X.c3
                have Xf4_7 := X.c4
                have Xf5_7 := X.c5
                have Pf0_8 := P.c0
                have Pf1_8 := P.c1
                go_wp2_with fail
                refine (hPl _).mono ?_
                rintro e kw9 ⟨rfl, kh9⟩
                clear Xf0_7 Xf1_7 Xf2_7 Xf3_7 Xf4_7 Xf5_7 Pf0_8 Pf1_8
                replace X := X.later (kh9.mono X.lt)
                replace P := P.later (kh9.mono P.lt)
                replace hS := hS.later kh9
                have kB9 := kB6.trans (kh9.mono kB6.size)
                clear kB6
                have kT9 := kT6.later kh9
                clear kT6
                clear kh9 hPl
                have Xf0_10 := X.c0
                have Xf1_10 := X.c1
                have Xf2_10 := X.c2
                have Xf3_10 := X.c3
                have Xf4_10 := X.c4
                have Xf5_10 := X.c5
                have Pf0_11 := P.c0
                have Pf1_11 := P.c1
                go_wp2_with fail
                refine (hCk _ hS).mono ?_
                rintro e kw12 ⟨rfl, kh12⟩
                clear Xf0_10 Xf1_10 Xf2_10 Xf3_10 Xf4_10 Xf5_10 Pf0_11 Pf1_11
                replace X := X.later (kh12.mono X.lt)
                replace P := P.later (kh12.mono P.lt)
                replace hS := hS.later kh12
                have kB12 := kB9.trans (kh12.mono kB9.size)
                clear kB9
                have kT12 := kT9.later kh12
                clear kT9
                clear kh12 hCk
                have Xf0_13 := X.c0
                have Xf1_13 := X.c1
                have Xf2_13 := X.c2
                have Xf3_13 := X.c3
                have Xf4_13 := X.c4
                have Xf5_13 := X.c5
                have Pf0_14 := P.c0
                have Pf1_14 := P.c1
                go_wp2_with fail
                refine (hEn _ kT12 hS).mono ?_
                rintro e kw15 ⟨rfl, kh15⟩
                clear Xf0_13 Xf1_13 Xf2_13 Xf3_13 Xf4_13 Xf5_13 Pf0_14 Pf1_14
                replace X := X.later (kh15.mono X.lt)
                replace P := P.later (kh15.mono P.lt)
                replace hS := hS.later kh15
                have kB15 := kB12.trans (kh15.mono kB12.size)
                clear kB12
                have kT15 := kT12.later kh15
                clear kT12
                clear kh15 hEn
                have Xf0_16 := X.c0
                have Xf1_16 := X.c1
                have Xf2_16 := X.c2
                have Xf3_16 := X.c3
                have Xf4_16 := X.c4
                have Xf5_16 := X.c5
                have Pf0_17 := P.c0
                have Pf1_17 := P.c1
                obtain ⟨bcap, wb, hcv, R, BC⟩ := to_bytes E kw15
                have BB2 := kB15.trans (BC.mono kB15.size)
                have hge : W.heap.size ≤ kw15.heap.size := kB15.size
                have c1 := R.cell p hp
                have f1 := R.frozen p hp
                have hxr := u8_xor_nat ((bs E).getD p 0) x hlb hx
                have R3 := R.set hp ((bs E).getD p 0 ^^^ x)
                have B3 := below_set BB2 hge p (.int .u8 (((bs E).getD p 0 ^^^ x : Nat) : Int))
                have hc3 := R3.conv bcap
                rw [set_range (bs_length E)] at hc3
                change _ = Result.ok (Value.string (tur E p x)) _ at hc3
                have TT := T.later B3
                clear R R3 BC BB2
                generalize (bs E).getD p 0 = old at *
                generalize old ^^^ x = nw at *
                generalize tur E p x = E3 at *
                go_wp2_with fail
                refine (hDt _ TT).mono ?_
                rintro e w8 ⟨v1, rfl, hO, hF, b8⟩
                replace B3 := B3.trans (b8.mono B3.size)
                clear hF
                obtain ⟨b1, cp1, rfl, hQ1⟩ := hO.sl (by simp)
                simp only [List.length_nil] at hQ1
                clear hO
                clear hDt b8 TT hcv hc3 c1 f1 hxr hge Xf0_16 Xf1_16 Xf2_16 Xf3_16 Xf4_16 Xf5_16 Pf0_17 Pf1_17 X P hS kB15 kT15
                have TV := T.later B3
                have mh1 := below_alloc w8 (.cells #[.int .i64 0, .int .i64 0, .int .i64 0, .slice b1 0 cp1, .string ⟨#[]⟩, .string ⟨#[]⟩] 24)
                replace hQ1 := hQ1.later mh1
                have mB1 := B3.trans (mh1.mono B3.size)
                clear B3
                have mT1 := TV.later mh1
                clear TV
                have Y := boxR w8 (0) (0) (0) (.slice b1 0 cp1) (⟨#[]⟩) (⟨#[]⟩) 24
                clear mh1
                have Yf0_2 := Y.c0
                have Yf1_2 := Y.c1
                have Yf2_2 := Y.c2
                have Yf3_2 := Y.c3
                have Yf4_2 := Y.c4
                have Yf5_2 := Y.c5
                go_wp2_with fail
                refine (hN _ b1 cp1 hQ1).mono ?_
                rintro e mw3 ⟨rfl, mh3⟩
                clear Yf0_2 Yf1_2 Yf2_2 Yf3_2 Yf4_2 Yf5_2
                replace Y := Y.later (mh3.mono Y.lt)
                replace hQ1 := hQ1.later mh3
                have mB3 := mB1.trans (mh3.mono mB1.size)
                clear mB1
                have mT3 := mT1.later mh3
                clear mT1
                clear mh3 
                have Yf0_4 := Y.c0
                have Yf1_4 := Y.c1
                have Yf2_4 := Y.c2
                have Yf3_4 := Y.c3
                have Yf4_4 := Y.c4
                have Yf5_4 := Y.c5
                go_wp2_with fail
                refine (hDc _ mT3).mono ?_
                rintro e mw5 ⟨v2, rfl, hO, hF, mh5⟩
                clear Yf0_4 Yf1_4 Yf2_4 Yf3_4 Yf4_4 Yf5_4
                replace Y := Y.later (mh5.mono Y.lt)
                replace hQ1 := hQ1.later mh5
                have mB5 := mB3.trans (mh5.mono mB3.size)
                clear mB3
                have mT5 := mT3.later mh5
                clear mT3
                clear mh5 hDc
                clear hF
                obtain ⟨b2, cp2, rfl, hQ2⟩ := hO.sl (by simp)
                simp only [List.length_nil] at hQ2
                clear hO
                have Yf0_6 := Y.c0
                have Yf1_6 := Y.c1
                have Yf2_6 := Y.c2
                have Yf3_6 := Y.c3
                have Yf4_6 := Y.c4
                have Yf5_6 := Y.c5
                have mh7 := below_alloc mw5 (.cells #[.int .i64 0, .int .i64 0, .int .i64 0, .slice b2 0 cp2, .string ⟨#[]⟩, .string ⟨#[]⟩] 24)
                replace Y := Y.later (mh7.mono Y.lt)
                replace hQ1 := hQ1.later mh7
                replace hQ2 := hQ2.later mh7
                have mB7 := mB5.trans (mh7.mono mB5.size)
                clear mB5
                have mT7 := mT5.later mh7
                clear mT5
                have Z := boxR mw5 (0) (0) (0) (.slice b2 0 cp2) (⟨#[]⟩) (⟨#[]⟩) 24
                clear mh7
                clear Yf0_6 Yf1_6 Yf2_6 Yf3_6 Yf4_6 Yf5_6
                have Yf0_8 := Y.c0
                have Yf1_8 := Y.c1
                have Yf2_8 := Y.c2
                have Yf3_8 := Y.c3
                have Yf4_8 := Y.c4
                have Yf5_8 := Y.c5
                have Zf0_9 := Z.c0
                have Zf1_9 := Z.c1
                have Zf2_9 := Z.c2
                have Zf3_9 := Z.c3
                have Zf4_9 := Z.c4
                have Zf5_9 := Z.c5
                go_wp2_with fail
                refine (hN _ b2 cp2 hQ2).mono ?_
                rintro e mw10 ⟨rfl, mh10⟩
                clear Yf0_8 Yf1_8 Yf2_8 Yf3_8 Yf4_8 Yf5_8 Zf0_9 Zf1_9 Zf2_9 Zf3_9 Zf4_9 Zf5_9
                replace Y := Y.later (mh10.mono Y.lt)
                replace Z := Z.later (mh10.mono Z.lt)
                replace hQ1 := hQ1.later mh10
                replace hQ2 := hQ2.later mh10
                have mB10 := mB7.trans (mh10.mono mB7.size)
                clear mB7
                have mT10 := mT7.later mh10
                clear mT7
                clear mh10 
                have Yf0_11 := Y.c0
                have Yf1_11 := Y.c1
                have Yf2_11 := Y.c2
                have Yf3_11 := Y.c3
                have Yf4_11 := Y.c4
                have Yf5_11 := Y.c5
                have Zf0_12 := Z.c0
                have Zf1_12 := Z.c1
                have Zf2_12 := Z.c2
                have Zf3_12 := Z.c3
                have Zf4_12 := Z.c4
                have Zf5_12 := Z.c5
                go_wp2_with fail
                refine (awake_any _ mT10).mono ?_
                rintro e mw13 ⟨rfl, mh13⟩
                clear Yf0_11 Yf1_11 Yf2_11 Yf3_11 Yf4_11 Yf5_11 Zf0_12 Zf1_12 Zf2_12 Zf3_12 Zf4_12 Zf5_12
                replace Y := Y.later (mh13.mono Y.lt)
                replace Z := Z.later (mh13.mono Z.lt)
                replace hQ1 := hQ1.later mh13
                replace hQ2 := hQ2.later mh13
                have mB13 := mB10.trans (mh13.mono mB10.size)
                clear mB10
                have mT13 := mT10.later mh13
                clear mT10
                clear mh13 
                have Yf0_14 := Y.c0
                have Yf1_14 := Y.c1
                have Yf2_14 := Y.c2
                have Yf3_14 := Y.c3
                have Yf4_14 := Y.c4
                have Yf5_14 := Y.c5
                have Zf0_15 := Z.c0
                have Zf1_15 := Z.c1
                have Zf2_15 := Z.c2
                have Zf3_15 := Z.c3
                have Zf4_15 := Z.c4
                have Zf5_15 := Z.c5
                go_wp2
                go_ret
                exact ⟨rfl, mB13⟩
    · have hc0 : (chk ⟨ep, nu, ki, xs, da, tx⟩ == 0) = false := by rwa [beq_eq_false_iff_ne]
      have hc1 : (chk ⟨ep, nu, ki, xs, da, tx⟩ != 0) = true := by simpa using hc
      generalize chk ⟨ep, nu, ki, xs, da, tx⟩ = C at *
      clear hf
      go_enter Tryd.func6, Tryd.ntmps6
      have kh1 := below_alloc W (.cells #[.int .i64 ep, .int .i64 nu, .int .i64 ki, .slice a n cap, .string da, .string tx] 24)
      replace hS := hS.later kh1
      have kB1 := kh1
      have kT1 := T.later kh1
      have X := boxR W (ep) (nu) (ki) (.slice a n cap) (da) (tx) 24
      generalize kW1 : W.alloc (.cells #[.int .i64 ep, .int .i64 nu, .int .i64 ki, .slice a n cap, .string da, .string tx] 24) = kw1 at *
      clear kh1
      have Xf0_2 := X.c0
      have Xf1_2 := X.c1
      have Xf2_2 := X.c2
      have Xf3_2 := X.c3
      have Xf4_2 := X.c4
      have Xf5_2 := X.c5
      have kh3 := below_alloc kw1 (.cells #[.int .i64 at1, .int .i64 ct] 51)
      replace X := X.later (kh3.mono X.lt)
      replace hS := hS.later kh3
      have kB3 := kB1.trans (kh3.mono kB1.size)
      clear kB1
      have kT3 := kT1.later kh3
      clear kT1
      have P := box2 kw1 at1 ct 51
      generalize kW3 : kw1.alloc (.cells #[.int .i64 at1, .int .i64 ct] 51) = kw3 at *
      clear kh3
      clear Xf0_2 Xf1_2 Xf2_2 Xf3_2 Xf4_2 Xf5_2
      have Xf0_4 := X.c0
      have Xf1_4 := X.c1
      have Xf2_4 := X.c2
      have Xf3_4 := X.c3
      have Xf4_4 := X.c4
      have Xf5_4 := X.c5
      have Pf0_5 := P.c0
      have Pf1_5 := P.c1
      go_wp2_with fail
      refine (hFe _).mono ?_
      rintro e kw6 ⟨rfl, kh6⟩
      clear Xf0_4 Xf1_4 Xf2_4 Xf3_4 Xf4_4 Xf5_4 Pf0_5 Pf1_5 kW1 kW3
      replace X := X.later (kh6.mono X.lt)
      replace P := P.later (kh6.mono P.lt)
      replace hS := hS.later kh6
      have kB6 := kB3.trans (kh6.mono kB3.size)
      clear kB3
      have kT6 := kT3.later kh6
      clear kT3
      clear kh6 hFe
      have Xf0_7 := X.c0
      have Xf1_7 := X.c1
      have Xf2_7 := X.c2
      have Xf3_7 := X.c3
      have Xf4_7 := X.c4
      have Xf5_7 := X.c5
      have Pf0_8 := P.c0
      have Pf1_8 := P.c1
      go_wp2_with fail
      refine (hPl _).mono ?_
      rintro e kw9 ⟨rfl, kh9⟩
      clear Xf0_7 Xf1_7 Xf2_7 Xf3_7 Xf4_7 Xf5_7 Pf0_8 Pf1_8
      replace X := X.later (kh9.mono X.lt)
      replace P := P.later (kh9.mono P.lt)
      replace hS := hS.later kh9
      have kB9 := kB6.trans (kh9.mono kB6.size)
      clear kB6
      have kT9 := kT6.later kh9
      clear kT6
      clear kh9 hPl
      have Xf0_10 := X.c0
      have Xf1_10 := X.c1
      have Xf2_10 := X.c2
      have Xf3_10 := X.c3
      have Xf4_10 := X.c4
      have Xf5_10 := X.c5
      have Pf0_11 := P.c0
      have Pf1_11 := P.c1
      go_wp2_with fail
      refine (hCk _ hS).mono ?_
      rintro e kw12 ⟨rfl, kh12⟩
      clear Xf0_10 Xf1_10 Xf2_10 Xf3_10 Xf4_10 Xf5_10 Pf0_11 Pf1_11
      replace X := X.later (kh12.mono X.lt)
      replace P := P.later (kh12.mono P.lt)
      replace hS := hS.later kh12
      have kB12 := kB9.trans (kh12.mono kB9.size)
      clear kB9
      have kT12 := kT9.later kh12
      clear kT9
      clear kh12 hCk
      have Xf0_13 := X.c0
      have Xf1_13 := X.c1
      have Xf2_13 := X.c2
      have Xf3_13 := X.c3
      have Xf4_13 := X.c4
      have Xf5_13 := X.c5
      have Pf0_14 := P.c0
      have Pf1_14 := P.c1
      go_wp2_with fail
      refine (awake_any _ kT12).mono ?_
      rintro e kw15 ⟨rfl, kh15⟩
      clear Xf0_13 Xf1_13 Xf2_13 Xf3_13 Xf4_13 Xf5_13 Pf0_14 Pf1_14
      replace X := X.later (kh15.mono X.lt)
      replace P := P.later (kh15.mono P.lt)
      replace hS := hS.later kh15
      have kB15 := kB12.trans (kh15.mono kB12.size)
      clear kB12
      have kT15 := kT12.later kh15
      clear kT12
      clear kh15 
      have Xf0_16 := X.c0
      have Xf1_16 := X.c1
      have Xf2_16 := X.c2
      have Xf3_16 := X.c3
      have Xf4_16 := X.c4
      have Xf5_16 := X.c5
      have Pf0_17 := P.c0
      have Pf1_17 := P.c1
      go_wp2
      go_ret
      exact ⟨rfl, kB15⟩
end Re
end Go.Proofs.YtnpbgjafahhadaaDoor
