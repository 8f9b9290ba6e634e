/- The law RecordOne, walked. -/
import Derived.Test.YtnpbgjafahhadaaDoorSc
import Derived.Test.YtnpbgjafahhadaaDoorSe
import Derived.Test.YtnpbgjafahhadaaDoorSf
import Derived.Test.YtnpbgjafahhadaaDoorSg
namespace Go.Proofs.YtnpbgjafahhadaaDoor
open Go.RowKit
namespace Re
open Cr
theorem dR_fit {s : ByteArray} : ∀ x ∈ (dR s).1.sp, Fit x := by
  have hf := (rdB_facts (mid_lt s)).2.2.2.2.1
  have h : (rH s).1.sp = (rdB (mid s)).1.sp ∨ (rH s).1.sp = [] := by
    unfold rH
    split
    · split
      · exact .inl rfl
      · exact .inr rfl
    · exact .inr rfl
  have h2 : (dR s).1.sp = (rH s).1.sp ∨ (dR s).1.sp = [] := by
    unfold dR
    split
    · split
      · exact .inr rfl
      · split
        · exact .inl rfl
        · exact .inr rfl
    · exact .inr rfl
  intro x hx
  rcases h2 with h2 | h2
  · rw [h2] at hx
    rcases h with h | h
    · rw [h] at hx
      exact hf x hx
    · rw [h] at hx
      simp at hx
  · rw [h2] at hx
    simp at hx
theorem chk_sizes {r : Rc} (h : chk r = 0) : r.tx.size ≤ 512 ∧ r.da.size ≤ 32768 := by
  have h1 := hB_tx (chk_head h)
  have h2 := (enc_sizes h).1
  have h3 := (nd_need (chk_head h)).2
  omega
set_option maxHeartbeats 4000000 in
theorem recordOne_walk (s : ByteArray) (hs : s.size ≤ 9223372036854775807) (W : World) (T : Tab W) : Calls Tryd.prog 7 #[.string s] W fun e w' => e = .returned (.bool true) ∧ Below W.heap.size W w' := by
  by_cases hl : 4000 < s.size
  · have hl2 : (4000 : Int) < (s.size : Int) := by omega
    go_enter Tryd.func7, Tryd.ntmps7
    go_wp2_with fail
    refine (awake_any W T).mono ?_
    rintro e w1 ⟨rfl, b1⟩
    go_wp2
    go_ret
    exact ⟨rfl, b1⟩
  · have hl2 : ¬ (4000 : Int) < (s.size : Int) := by omega
    have hD := decode_rec_any s (by omega) W T
    have hE := dR_err s
    have hone := @dR_one s
    have hfit := @dR_fit s
    have hN : ∀ (w : World) (a : Option Addr) (cap : Nat) (h : Sl w a 0 []), _ := fun w a cap h => none_any 0 0 0 a 0 cap [] ⟨#[]⟩ ⟨#[]⟩ w h
    rw [show sameB ⟨0, 0, 0, [], ⟨#[]⟩, ⟨#[]⟩⟩ no = true by decide +kernel] at hN
    generalize dR s = q at *
    rcases hE with he | rfl | rfl | rfl
    · obtain ⟨⟨ep, nu, ki, xs, da, tx⟩, n, er⟩ := q
      simp only at hD he hone hfit
      subst he
      obtain ⟨h1, h2, h3, h4⟩ := hone rfl
      obtain ⟨ht, hd⟩ := chk_sizes h1
      simp only at ht hd
      have hEn : ∀ (w : World) (T : Tab w) (a : Option Addr) (cap : Nat) (h : Sl w a xs.length xs), _ := fun w T a cap h => encode_rec_any ep nu ki a xs.length cap xs da tx w T h (by omega) (by omega)
      have hCk : ∀ (w : World) (a : Option Addr) (cap : Nat) (h : Sl w a xs.length xs), _ := fun w a cap h => rcheck_any ep nu ki a xs.length cap xs da tx w h (by omega) (by omega)
      have hPl : ∀ (w : World) (a : Option Addr) (cap : Nat), _ := fun w a cap => plain_any ep nu ki a xs.length cap da tx w
      rw [h1] at hCk
      rw [encR, if_pos h1, h1, h2] at hEn
      have hxl : (64 : Int) * (n : Int) ≤ (s.size : Int) := by omega
      have hx2 : 64 * n ≤ s.size := by omega
      have hb := beq_lists (rfl : s.extract 0 (64 * n) = s.extract 0 (64 * n))
      have hn4 : n ≤ 100 := by omega
      clear h1 h2 h3 h4 hone hN
      go_enter Tryd.func7, Tryd.ntmps7
      go_wp2_with fail
      refine (hD).mono ?_
      rintro e kw1 ⟨v1, rfl, hO, hF, kh1⟩
      have kB1 := kh1
      have kT1 := T.later kh1
      clear kh1 hD
      clear hF
      obtain ⟨a, cap, rfl, hS⟩ := hO.sl hfit
      clear hO
      have kh2 := below_alloc kw1 (.cells #[.int .i64 ep, .int .i64 nu, .int .i64 ki, .slice a xs.length cap, .string da, .string tx] 24)
      replace hS := hS.later kh2
      have kB2 := kB1.trans (kh2.mono kB1.size)
      clear kB1
      have kT2 := kT1.later kh2
      clear kT1
      have X := boxR kw1 (ep) (nu) (ki) (.slice a xs.length cap) (da) (tx) 24
      generalize kW2 : kw1.alloc (.cells #[.int .i64 ep, .int .i64 nu, .int .i64 ki, .slice a xs.length cap, .string da, .string tx] 24) = kw2 at *
      clear kh2
      have Xf0_3 := X.c0
      have Xf1_3 := X.c1
      have Xf2_3 := X.c2
      have Xf3_3 := X.c3
      have Xf4_3 := X.c4
      have Xf5_3 := X.c5
      go_wp2_with fail
      refine (hEn _ kT2 a cap hS).mono ?_
      rintro e kw4 ⟨rfl, kh4⟩
      clear Xf0_3 Xf1_3 Xf2_3 Xf3_3 Xf4_3 Xf5_3 kW2
      replace X := X.later (kh4.mono X.lt)
      replace hS := hS.later kh4
      have kB4 := kB2.trans (kh4.mono kB2.size)
      clear kB2
      have kT4 := kT2.later kh4
      clear kT2
      clear kh4 hEn
      have Xf0_5 := X.c0
      have Xf1_5 := X.c1
      have Xf2_5 := X.c2
      have Xf3_5 := X.c3
      have Xf4_5 := X.c4
      have Xf5_5 := X.c5
      go_wp2_with fail
      refine (hPl _ a cap).mono ?_
      rintro e kw6 ⟨rfl, kh6⟩
      clear Xf0_5 Xf1_5 Xf2_5 Xf3_5 Xf4_5 Xf5_5
      replace X := X.later (kh6.mono X.lt)
      replace hS := hS.later kh6
      have kB6 := kB4.trans (kh6.mono kB4.size)
      clear kB4
      have kT6 := kT4.later kh6
      clear kT4
      clear kh6 hPl
      have Xf0_7 := X.c0
      have Xf1_7 := X.c1
      have Xf2_7 := X.c2
      have Xf3_7 := X.c3
      have Xf4_7 := X.c4
      have Xf5_7 := X.c5
      go_wp2_with fail
      refine (hCk _ a cap hS).mono ?_
      rintro e kw8 ⟨rfl, kh8⟩
      clear Xf0_7 Xf1_7 Xf2_7 Xf3_7 Xf4_7 Xf5_7
      replace X := X.later (kh8.mono X.lt)
      replace hS := hS.later kh8
      have kB8 := kB6.trans (kh8.mono kB6.size)
      clear kB6
      have kT8 := kT6.later kh8
      clear kT6
      clear kh8 hCk
      have Xf0_9 := X.c0
      have Xf1_9 := X.c1
      have Xf2_9 := X.c2
      have Xf3_9 := X.c3
      have Xf4_9 := X.c4
      have Xf5_9 := X.c5
      go_wp2_with fail
      refine (awake_any _ kT8).mono ?_
      rintro e kw10 ⟨rfl, kh10⟩
      clear Xf0_9 Xf1_9 Xf2_9 Xf3_9 Xf4_9 Xf5_9
      replace X := X.later (kh10.mono X.lt)
      replace hS := hS.later kh10
      have kB10 := kB8.trans (kh10.mono kB8.size)
      clear kB8
      have kT10 := kT8.later kh10
      clear kT8
      clear kh10 
      have Xf0_11 := X.c0
      have Xf1_11 := X.c1
      have Xf2_11 := X.c2
      have Xf3_11 := X.c3
      have Xf4_11 := X.c4
      have Xf5_11 := X.c5
      go_wp2
      go_ret
      exact ⟨rfl, kB10⟩
    · simp only [no] at hD
      clear hone hfit
      go_enter Tryd.func7, Tryd.ntmps7
      go_wp2_with fail
      refine (hD).mono ?_
      rintro e kw1 ⟨v1, rfl, hO, hF, kh1⟩
      have kB1 := kh1
      have kT1 := T.later kh1
      clear kh1 hD
      clear hF
      obtain ⟨a, cap, rfl, hS⟩ := hO.sl (by simp)
      simp only [List.length_nil] at hS
      clear hO
      have kh2 := below_alloc kw1 (.cells #[.int .i64 0, .int .i64 0, .int .i64 0, .slice a 0 cap, .string ⟨#[]⟩, .string ⟨#[]⟩] 24)
      replace hS := hS.later kh2
      have kB2 := kB1.trans (kh2.mono kB1.size)
      clear kB1
      have kT2 := kT1.later kh2
      clear kT1
      have X := boxR kw1 (0) (0) (0) (.slice a 0 cap) (⟨#[]⟩) (⟨#[]⟩) 24
      clear kh2
      have Xf0_3 := X.c0
      have Xf1_3 := X.c1
      have Xf2_3 := X.c2
      have Xf3_3 := X.c3
      have Xf4_3 := X.c4
      have Xf5_3 := X.c5
      go_wp2_with fail
      refine (hN _ a cap hS).mono ?_
      rintro e kw4 ⟨rfl, kh4⟩
      clear Xf0_3 Xf1_3 Xf2_3 Xf3_3 Xf4_3 Xf5_3
      replace X := X.later (kh4.mono X.lt)
      replace hS := hS.later kh4
      have kB4 := kB2.trans (kh4.mono kB2.size)
      clear kB2
      have kT4 := kT2.later kh4
      clear kT2
      clear kh4 hN
      have Xf0_5 := X.c0
      have Xf1_5 := X.c1
      have Xf2_5 := X.c2
      have Xf3_5 := X.c3
      have Xf4_5 := X.c4
      have Xf5_5 := X.c5
      go_wp2_with fail
      refine (awake_any _ kT4).mono ?_
      rintro e kw6 ⟨rfl, kh6⟩
      clear Xf0_5 Xf1_5 Xf2_5 Xf3_5 Xf4_5 Xf5_5
      replace X := X.later (kh6.mono X.lt)
      replace hS := hS.later kh6
      have kB6 := kB4.trans (kh6.mono kB4.size)
      clear kB4
      have kT6 := kT4.later kh6
      clear kT4
      clear kh6 
      have Xf0_7 := X.c0
      have Xf1_7 := X.c1
      have Xf2_7 := X.c2
      have Xf3_7 := X.c3
      have Xf4_7 := X.c4
      have Xf5_7 := X.c5
      go_wp2
      go_ret
      exact ⟨rfl, kB6⟩
    · simp only [no] at hD
      clear hone hfit
      go_enter Tryd.func7, Tryd.ntmps7
      go_wp2_with fail
      refine (hD).mono ?_
      rintro e kw1 ⟨v1, rfl, hO, hF, kh1⟩
      have kB1 := kh1
      have kT1 := T.later kh1
      clear kh1 hD
      clear hF
      obtain ⟨a, cap, rfl, hS⟩ := hO.sl (by simp)
      simp only [List.length_nil] at hS
      clear hO
      have kh2 := below_alloc kw1 (.cells #[.int .i64 0, .int .i64 0, .int .i64 0, .slice a 0 cap, .string ⟨#[]⟩, .string ⟨#[]⟩] 24)
      replace hS := hS.later kh2
      have kB2 := kB1.trans (kh2.mono kB1.size)
      clear kB1
      have kT2 := kT1.later kh2
      clear kT1
      have X := boxR kw1 (0) (0) (0) (.slice a 0 cap) (⟨#[]⟩) (⟨#[]⟩) 24
      clear kh2
      have Xf0_3 := X.c0
      have Xf1_3 := X.c1
      have Xf2_3 := X.c2
      have Xf3_3 := X.c3
      have Xf4_3 := X.c4
      have Xf5_3 := X.c5
      go_wp2_with fail
      refine (hN _ a cap hS).mono ?_
      rintro e kw4 ⟨rfl, kh4⟩
      clear Xf0_3 Xf1_3 Xf2_3 Xf3_3 Xf4_3 Xf5_3
      replace X := X.later (kh4.mono X.lt)
      replace hS := hS.later kh4
      have kB4 := kB2.trans (kh4.mono kB2.size)
      clear kB2
      have kT4 := kT2.later kh4
      clear kT2
      clear kh4 hN
      have Xf0_5 := X.c0
      have Xf1_5 := X.c1
      have Xf2_5 := X.c2
      have Xf3_5 := X.c3
      have Xf4_5 := X.c4
      have Xf5_5 := X.c5
      go_wp2_with fail
      refine (awake_any _ kT4).mono ?_
      rintro e kw6 ⟨rfl, kh6⟩
      clear Xf0_5 Xf1_5 Xf2_5 Xf3_5 Xf4_5 Xf5_5
      replace X := X.later (kh6.mono X.lt)
      replace hS := hS.later kh6
      have kB6 := kB4.trans (kh6.mono kB4.size)
      clear kB4
      have kT6 := kT4.later kh6
      clear kT4
      clear kh6 
      have Xf0_7 := X.c0
      have Xf1_7 := X.c1
      have Xf2_7 := X.c2
      have Xf3_7 := X.c3
      have Xf4_7 := X.c4
      have Xf5_7 := X.c5
      go_wp2
      go_ret
      exact ⟨rfl, kB6⟩
    · simp only [no] at hD
      clear hone hfit
      go_enter Tryd.func7, Tryd.ntmps7
      go_wp2_with fail
      refine (hD).mono ?_
      rintro e kw1 ⟨v1, rfl, hO, hF, kh1⟩
      have kB1 := kh1
      have kT1 := T.later kh1
      clear kh1 hD
      clear hF
      obtain ⟨a, cap, rfl, hS⟩ := hO.sl (by simp)
      simp only [List.length_nil] at hS
      clear hO
      have kh2 := below_alloc kw1 (.cells #[.int .i64 0, .int .i64 0, .int .i64 0, .slice a 0 cap, .string ⟨#[]⟩, .string ⟨#[]⟩] 24)
      replace hS := hS.later kh2
      have kB2 := kB1.trans (kh2.mono kB1.size)
      clear kB1
      have kT2 := kT1.later kh2
      clear kT1
      have X := boxR kw1 (0) (0) (0) (.slice a 0 cap) (⟨#[]⟩) (⟨#[]⟩) 24
      clear kh2
      have Xf0_3 := X.c0
      have Xf1_3 := X.c1
      have Xf2_3 := X.c2
      have Xf3_3 := X.c3
      have Xf4_3 := X.c4
      have Xf5_3 := X.c5
      go_wp2_with fail
      refine (hN _ a cap hS).mono ?_
      rintro e kw4 ⟨rfl, kh4⟩
      clear Xf0_3 Xf1_3 Xf2_3 Xf3_3 Xf4_3 Xf5_3
      replace X := X.later (kh4.mono X.lt)
      replace hS := hS.later kh4
      have kB4 := kB2.trans (kh4.mono kB2.size)
      clear kB2
      have kT4 := kT2.later kh4
      clear kT2
      clear kh4 hN
      have Xf0_5 := X.c0
      have Xf1_5 := X.c1
      have Xf2_5 := X.c2
      have Xf3_5 := X.c3
      have Xf4_5 := X.c4
      have Xf5_5 := X.c5
      go_wp2_with fail
      refine (awake_any _ kT4).mono ?_
      rintro e kw6 ⟨rfl, kh6⟩
      clear Xf0_5 Xf1_5 Xf2_5 Xf3_5 Xf4_5 Xf5_5
      replace X := X.later (kh6.mono X.lt)
      replace hS := hS.later kh6
      have kB6 := kB4.trans (kh6.mono kB4.size)
      clear kB4
      have kT6 := kT4.later kh6
      clear kT4
      clear kh6 
      have Xf0_7 := X.c0
      have Xf1_7 := X.c1
      have Xf2_7 := X.c2
      have Xf3_7 := X.c3
      have Xf4_7 := X.c4
      have Xf5_7 := X.c5
      go_wp2
      go_ret
      exact ⟨rfl, kB6⟩
end Re
end Go.Proofs.YtnpbgjafahhadaaDoor
