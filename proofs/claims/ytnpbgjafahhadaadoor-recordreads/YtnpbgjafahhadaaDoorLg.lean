/- The law RecordReads, walked. -/
import Derived.Test.YtnpbgjafahhadaaDoorLa
import Derived.Test.YtnpbgjafahhadaaDoorTi
namespace Go.Proofs.YtnpbgjafahhadaaDoor
open Go.RowKit
namespace Re
open Cr
theorem rH_fit {s : ByteArray} : ∀ x ∈ (rH s).1.sp, Fit x := by
  have hf := (rdB_facts (mid_lt s)).2.2.2.2.1
  have h : (rH s).1.sp = (rdB (mid s)).1.sp ∨ (rH s).1.sp = [] := by
    unfold rH
    split
    · split
      · exact .inl rfl
      · exact .inr rfl
    · exact .inr rfl
  intro x hx
  rcases h with h | h
  · rw [h] at hx
    exact hf x hx
  · rw [h] at hx
    simp at hx
set_option maxHeartbeats 8000000 in
set_option maxRecDepth 20000 in
theorem recordReads_walk (s : ByteArray) (hs : s.size ≤ 9223372036854775807) (W : World) (T : Tab W) : Calls Tryd.prog 4 #[.string s] W fun e w' => e = .returned (.bool true) ∧ Below W.heap.size W w' := by
  by_cases hl : 4000 < s.size
  · have hl2 : (4000 : Int) < (s.size : Int) := by omega
    go_enter Tryd.func4, Tryd.ntmps4
    go_wp2_with fail
    refine (awake_any W T).mono ?_
    rintro e w1 ⟨rfl, b1⟩
    go_wp2
    go_ret
    exact ⟨rfl, b1⟩
  · have hl2 : ¬ (4000 : Int) < (s.size : Int) := by omega
    have hHe : ∀ (w : World) (T : Tab w), _ := fun w T => head_rec_any s (by omega) w T
    have hOp : ∀ (w : World) (T : Tab w), _ := fun w T => ropen_any s (by omega) w T
    have hDe : ∀ (w : World) (T : Tab w), _ := fun w T => decode_rec_any s (by omega) w T
    have hRd : ∀ (w : World) (T : Tab w), _ := fun w T => rdec_any s (by omega) w T
    have hf1 := @rH_fit s
    have hf2 := @dR_fit s
    generalize rH s = q at *
    generalize dR s = q2 at *
    obtain ⟨⟨ep, nu, ki, sp, da, tx⟩, sum, n, er⟩ := q
    obtain ⟨⟨ep2, nu2, ki2, sp2, da2, tx2⟩, n2, er2⟩ := q2
    simp only at hHe hOp hDe hRd hf1 hf2
    generalize need ⟨ep, nu, ki, sp, da, tx⟩ = N at *
    generalize str (smB ⟨ep, nu, ki, sp, da, tx⟩ sum) = Z at *
    have hSm1 : ∀ (w : World) (a1 : Option Addr) (c1 : Nat) (a2 : Option Addr) (c2 : Nat) (h1 : Sl w a1 sp.length sp) (h2 : Sl w a2 sp.length sp), _ := fun w a1 c1 a2 c2 h1 h2 => same_rec_any ep nu ki a1 sp.length c1 sp ⟨#[]⟩ tx ep nu ki a2 sp.length c2 sp ⟨#[]⟩ tx w h1 h2
    have hSm2 : ∀ (w : World) (a1 : Option Addr) (c1 : Nat) (a2 : Option Addr) (c2 : Nat) (h1 : Sl w a1 sp2.length sp2) (h2 : Sl w a2 sp2.length sp2), _ := fun w a1 c1 a2 c2 h1 h2 => same_rec_any ep2 nu2 ki2 a1 sp2.length c1 sp2 da2 tx2 ep2 nu2 ki2 a2 sp2.length c2 sp2 da2 tx2 w h1 h2
    rw [sameB_iff.2 rfl] at hSm1 hSm2
    go_enter Tryd.func4, Tryd.ntmps4
    go_wp2_with fail
    refine (hHe _ T).mono ?_
    rintro e kw1 ⟨v1, rfl, hO, hF, kh1⟩
    have kB1 := kh1
    have kT1 := T.later kh1
    clear kh1 hHe
    clear hF
    obtain ⟨a1, c1, rfl, hS1⟩ := hO.sl hf1
    clear hO
    have kh2 := below_alloc kw1 (.cells #[.int .i64 ep, .int .i64 nu, .int .i64 ki, .slice a1 sp.length c1, .string ⟨#[]⟩, .string tx] 24)
    replace hS1 := hS1.later kh2
    have kB2 := kB1.trans (kh2.mono kB1.size)
    clear kB1
    have kT2 := kT1.later kh2
    clear kT1
    have A := boxR kw1 (ep) (nu) (ki) (.slice a1 sp.length c1) (⟨#[]⟩) (tx) 24
    generalize kW2 : kw1.alloc (.cells #[.int .i64 ep, .int .i64 nu, .int .i64 ki, .slice a1 sp.length c1, .string ⟨#[]⟩, .string tx] 24) = kw2 at *
    clear kh2
    have Af0_3 := A.c0
    have Af1_3 := A.c1
    have Af2_3 := A.c2
    have Af3_3 := A.c3
    have Af4_3 := A.c4
    have Af5_3 := A.c5
    go_wp2_with fail
    refine (hOp _ kT2).mono ?_
    rintro e kw4 ⟨v2, rfl, hO, hF, kh4⟩
    clear Af0_3 Af1_3 Af2_3 Af3_3 Af4_3 Af5_3 kW2
    replace A := A.later (kh4.mono A.lt)
    replace hS1 := hS1.later kh4
    have kB4 := kB2.trans (kh4.mono kB2.size)
    clear kB2
    have kT4 := kT2.later kh4
    clear kT2
    clear kh4 hOp
    clear hF
    obtain ⟨a2, c2, rfl, hS2⟩ := hO.sl hf1
    clear hO
    have Af0_5 := A.c0
    have Af1_5 := A.c1
    have Af2_5 := A.c2
    have Af3_5 := A.c3
    have Af4_5 := A.c4
    have Af5_5 := A.c5
    have kh6 := below_alloc kw4 (.cells #[.int .i64 ep, .int .i64 nu, .int .i64 ki, .slice a2 sp.length c2, .string ⟨#[]⟩, .string tx] 29)
    replace A := A.later (kh6.mono A.lt)
    replace hS1 := hS1.later kh6
    replace hS2 := hS2.later kh6
    have kB6 := kB4.trans (kh6.mono kB4.size)
    clear kB4
    have kT6 := kT4.later kh6
    clear kT4
    have B := boxR kw4 (ep) (nu) (ki) (.slice a2 sp.length c2) (⟨#[]⟩) (tx) 29
    generalize kW6 : kw4.alloc (.cells #[.int .i64 ep, .int .i64 nu, .int .i64 ki, .slice a2 sp.length c2, .string ⟨#[]⟩, .string tx] 29) = kw6 at *
    clear kh6
    clear Af0_5 Af1_5 Af2_5 Af3_5 Af4_5 Af5_5
    have Af0_7 := A.c0
    have Af1_7 := A.c1
    have Af2_7 := A.c2
    have Af3_7 := A.c3
    have Af4_7 := A.c4
    have Af5_7 := A.c5
    have Bf0_8 := B.c0
    have Bf1_8 := B.c1
    have Bf2_8 := B.c2
    have Bf3_8 := B.c3
    have Bf4_8 := B.c4
    have Bf5_8 := B.c5
    go_wp2_with fail
    refine (hDe _ kT6).mono ?_
    rintro e kw9 ⟨v3, rfl, hO, hF, kh9⟩
    clear Af0_7 Af1_7 Af2_7 Af3_7 Af4_7 Af5_7 Bf0_8 Bf1_8 Bf2_8 Bf3_8 Bf4_8 Bf5_8 kW6
    replace A := A.later (kh9.mono A.lt)
    replace B := B.later (kh9.mono B.lt)
    replace hS1 := hS1.later kh9
    replace hS2 := hS2.later kh9
    have kB9 := kB6.trans (kh9.mono kB6.size)
    clear kB6
    have kT9 := kT6.later kh9
    clear kT6
    clear kh9 hDe
    clear hF
    obtain ⟨b1, d1, rfl, hS3⟩ := hO.sl hf2
    clear hO
    have Af0_10 := A.c0
    have Af1_10 := A.c1
    have Af2_10 := A.c2
    have Af3_10 := A.c3
    have Af4_10 := A.c4
    have Af5_10 := A.c5
    have Bf0_11 := B.c0
    have Bf1_11 := B.c1
    have Bf2_11 := B.c2
    have Bf3_11 := B.c3
    have Bf4_11 := B.c4
    have Bf5_11 := B.c5
    have kh12 := below_alloc kw9 (.cells #[.int .i64 ep2, .int .i64 nu2, .int .i64 ki2, .slice b1 sp2.length d1, .string da2, .string tx2] 24)
    replace A := A.later (kh12.mono A.lt)
    replace B := B.later (kh12.mono B.lt)
    replace hS1 := hS1.later kh12
    replace hS2 := hS2.later kh12
    replace hS3 := hS3.later kh12
    have kB12 := kB9.trans (kh12.mono kB9.size)
    clear kB9
    have kT12 := kT9.later kh12
    clear kT9
    have C := boxR kw9 (ep2) (nu2) (ki2) (.slice b1 sp2.length d1) (da2) (tx2) 24
    generalize kW12 : kw9.alloc (.cells #[.int .i64 ep2, .int .i64 nu2, .int .i64 ki2, .slice b1 sp2.length d1, .string da2, .string tx2] 24) = kw12 at *
    clear kh12
    clear Af0_10 Af1_10 Af2_10 Af3_10 Af4_10 Af5_10 Bf0_11 Bf1_11 Bf2_11 Bf3_11 Bf4_11 Bf5_11
    have Af0_13 := A.c0
    have Af1_13 := A.c1
    have Af2_13 := A.c2
    have Af3_13 := A.c3
    have Af4_13 := A.c4
    have Af5_13 := A.c5
    have Bf0_14 := B.c0
    have Bf1_14 := B.c1
    have Bf2_14 := B.c2
    have Bf3_14 := B.c3
    have Bf4_14 := B.c4
    have Bf5_14 := B.c5
    have Cf0_15 := C.c0
    have Cf1_15 := C.c1
    have Cf2_15 := C.c2
    have Cf3_15 := C.c3
    have Cf4_15 := C.c4
    have Cf5_15 := C.c5
    go_wp2_with fail
    refine (hRd _ kT12).mono ?_
    rintro e kw16 ⟨v4, rfl, hO, hF, kh16⟩
    clear Af0_13 Af1_13 Af2_13 Af3_13 Af4_13 Af5_13 Bf0_14 Bf1_14 Bf2_14 Bf3_14 Bf4_14 Bf5_14 Cf0_15 Cf1_15 Cf2_15 Cf3_15 Cf4_15 Cf5_15 kW12
    replace A := A.later (kh16.mono A.lt)
    replace B := B.later (kh16.mono B.lt)
    replace C := C.later (kh16.mono C.lt)
    replace hS1 := hS1.later kh16
    replace hS2 := hS2.later kh16
    replace hS3 := hS3.later kh16
    have kB16 := kB12.trans (kh16.mono kB12.size)
    clear kB12
    have kT16 := kT12.later kh16
    clear kT12
    clear kh16 hRd
    clear hF
    obtain ⟨b2, d2, rfl, hS4⟩ := hO.sl hf2
    clear hO
    have Af0_17 := A.c0
    have Af1_17 := A.c1
    have Af2_17 := A.c2
    have Af3_17 := A.c3
    have Af4_17 := A.c4
    have Af5_17 := A.c5
    have Bf0_18 := B.c0
    have Bf1_18 := B.c1
    have Bf2_18 := B.c2
    have Bf3_18 := B.c3
    have Bf4_18 := B.c4
    have Bf5_18 := B.c5
    have Cf0_19 := C.c0
    have Cf1_19 := C.c1
    have Cf2_19 := C.c2
    have Cf3_19 := C.c3
    have Cf4_19 := C.c4
    have Cf5_19 := C.c5
    have kh20 := below_alloc kw16 (.cells #[.int .i64 ep2, .int .i64 nu2, .int .i64 ki2, .slice b2 sp2.length d2, .string da2, .string tx2] 29)
    replace A := A.later (kh20.mono A.lt)
    replace B := B.later (kh20.mono B.lt)
    replace C := C.later (kh20.mono C.lt)
    replace hS1 := hS1.later kh20
    replace hS2 := hS2.later kh20
    replace hS3 := hS3.later kh20
    replace hS4 := hS4.later kh20
    have kB20 := kB16.trans (kh20.mono kB16.size)
    clear kB16
    have kT20 := kT16.later kh20
    clear kT16
    have D := boxR kw16 (ep2) (nu2) (ki2) (.slice b2 sp2.length d2) (da2) (tx2) 29
    generalize kW20 : kw16.alloc (.cells #[.int .i64 ep2, .int .i64 nu2, .int .i64 ki2, .slice b2 sp2.length d2, .string da2, .string tx2] 29) = kw20 at *
    clear kh20
    clear Af0_17 Af1_17 Af2_17 Af3_17 Af4_17 Af5_17 Bf0_18 Bf1_18 Bf2_18 Bf3_18 Bf4_18 Bf5_18 Cf0_19 Cf1_19 Cf2_19 Cf3_19 Cf4_19 Cf5_19
    have Af0_21 := A.c0
    have Af1_21 := A.c1
    have Af2_21 := A.c2
    have Af3_21 := A.c3
    have Af4_21 := A.c4
    have Af5_21 := A.c5
    have Bf0_22 := B.c0
    have Bf1_22 := B.c1
    have Bf2_22 := B.c2
    have Bf3_22 := B.c3
    have Bf4_22 := B.c4
    have Bf5_22 := B.c5
    have Cf0_23 := C.c0
    have Cf1_23 := C.c1
    have Cf2_23 := C.c2
    have Cf3_23 := C.c3
    have Cf4_23 := C.c4
    have Cf5_23 := C.c5
    have Df0_24 := D.c0
    have Df1_24 := D.c1
    have Df2_24 := D.c2
    have Df3_24 := D.c3
    have Df4_24 := D.c4
    have Df5_24 := D.c5
    go_wp2_with fail
    refine (hSm1 _ a1 c1 a2 c2 hS1 hS2).mono ?_
    rintro e kw25 ⟨rfl, kh25⟩
    clear Af0_21 Af1_21 Af2_21 Af3_21 Af4_21 Af5_21 Bf0_22 Bf1_22 Bf2_22 Bf3_22 Bf4_22 Bf5_22 Cf0_23 Cf1_23 Cf2_23 Cf3_23 Cf4_23 Cf5_23 Df0_24 Df1_24 Df2_24 Df3_24 Df4_24 Df5_24 kW20
    replace A := A.later (kh25.mono A.lt)
    replace B := B.later (kh25.mono B.lt)
    replace C := C.later (kh25.mono C.lt)
    replace D := D.later (kh25.mono D.lt)
    replace hS1 := hS1.later kh25
    replace hS2 := hS2.later kh25
    replace hS3 := hS3.later kh25
    replace hS4 := hS4.later kh25
    have kB25 := kB20.trans (kh25.mono kB20.size)
    clear kB20
    have kT25 := kT20.later kh25
    clear kT20
    clear kh25 hSm1
    have Af0_26 := A.c0
    have Af1_26 := A.c1
    have Af2_26 := A.c2
    have Af3_26 := A.c3
    have Af4_26 := A.c4
    have Af5_26 := A.c5
    have Bf0_27 := B.c0
    have Bf1_27 := B.c1
    have Bf2_27 := B.c2
    have Bf3_27 := B.c3
    have Bf4_27 := B.c4
    have Bf5_27 := B.c5
    have Cf0_28 := C.c0
    have Cf1_28 := C.c1
    have Cf2_28 := C.c2
    have Cf3_28 := C.c3
    have Cf4_28 := C.c4
    have Cf5_28 := C.c5
    have Df0_29 := D.c0
    have Df1_29 := D.c1
    have Df2_29 := D.c2
    have Df3_29 := D.c3
    have Df4_29 := D.c4
    have Df5_29 := D.c5
    go_wp2_with fail
    refine (hSm2 _ b1 d1 b2 d2 hS3 hS4).mono ?_
    rintro e kw30 ⟨rfl, kh30⟩
    clear Af0_26 Af1_26 Af2_26 Af3_26 Af4_26 Af5_26 Bf0_27 Bf1_27 Bf2_27 Bf3_27 Bf4_27 Bf5_27 Cf0_28 Cf1_28 Cf2_28 Cf3_28 Cf4_28 Cf5_28 Df0_29 Df1_29 Df2_29 Df3_29 Df4_29 Df5_29
    replace A := A.later (kh30.mono A.lt)
    replace B := B.later (kh30.mono B.lt)
    replace C := C.later (kh30.mono C.lt)
    replace D := D.later (kh30.mono D.lt)
    replace hS1 := hS1.later kh30
    replace hS2 := hS2.later kh30
    replace hS3 := hS3.later kh30
    replace hS4 := hS4.later kh30
    have kB30 := kB25.trans (kh30.mono kB25.size)
    clear kB25
    have kT30 := kT25.later kh30
    clear kT25
    clear kh30 hSm2
    have Af0_31 := A.c0
    have Af1_31 := A.c1
    have Af2_31 := A.c2
    have Af3_31 := A.c3
    have Af4_31 := A.c4
    have Af5_31 := A.c5
    have Bf0_32 := B.c0
    have Bf1_32 := B.c1
    have Bf2_32 := B.c2
    have Bf3_32 := B.c3
    have Bf4_32 := B.c4
    have Bf5_32 := B.c5
    have Cf0_33 := C.c0
    have Cf1_33 := C.c1
    have Cf2_33 := C.c2
    have Cf3_33 := C.c3
    have Cf4_33 := C.c4
    have Cf5_33 := C.c5
    have Df0_34 := D.c0
    have Df1_34 := D.c1
    have Df2_34 := D.c2
    have Df3_34 := D.c3
    have Df4_34 := D.c4
    have Df5_34 := D.c5
    go_wp2_with fail
    refine (awake_any _ kT30).mono ?_
    rintro e kw35 ⟨rfl, kh35⟩
    clear Af0_31 Af1_31 Af2_31 Af3_31 Af4_31 Af5_31 Bf0_32 Bf1_32 Bf2_32 Bf3_32 Bf4_32 Bf5_32 Cf0_33 Cf1_33 Cf2_33 Cf3_33 Cf4_33 Cf5_33 Df0_34 Df1_34 Df2_34 Df3_34 Df4_34 Df5_34
    replace A := A.later (kh35.mono A.lt)
    replace B := B.later (kh35.mono B.lt)
    replace C := C.later (kh35.mono C.lt)
    replace D := D.later (kh35.mono D.lt)
    replace hS1 := hS1.later kh35
    replace hS2 := hS2.later kh35
    replace hS3 := hS3.later kh35
    replace hS4 := hS4.later kh35
    have kB35 := kB30.trans (kh35.mono kB30.size)
    clear kB30
    have kT35 := kT30.later kh35
    clear kT30
    clear kh35 
    have Af0_36 := A.c0
    have Af1_36 := A.c1
    have Af2_36 := A.c2
    have Af3_36 := A.c3
    have Af4_36 := A.c4
    have Af5_36 := A.c5
    have Bf0_37 := B.c0
    have Bf1_37 := B.c1
    have Bf2_37 := B.c2
    have Bf3_37 := B.c3
    have Bf4_37 := B.c4
    have Bf5_37 := B.c5
    have Cf0_38 := C.c0
    have Cf1_38 := C.c1
    have Cf2_38 := C.c2
    have Cf3_38 := C.c3
    have Cf4_38 := C.c4
    have Cf5_38 := C.c5
    have Df0_39 := D.c0
    have Df1_39 := D.c1
    have Df2_39 := D.c2
    have Df3_39 := D.c3
    have Df4_39 := D.c4
    have Df5_39 := D.c5
    go_wp2
    go_ret
    exact ⟨rfl, kB35⟩
end Re
end Go.Proofs.YtnpbgjafahhadaaDoor
