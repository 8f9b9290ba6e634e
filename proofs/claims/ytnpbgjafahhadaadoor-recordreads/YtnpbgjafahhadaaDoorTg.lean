/- Which records, but for their data, may be, the document's way. -/
import Derived.Test.YtnpbgjafahhadaaDoorSg
import Derived.Test.YtnpbgjafahhadaaDoorSc
import Derived.Test.YtnpbgjafahhadaaDoorRn
namespace Go.Proofs.YtnpbgjafahhadaaDoor
open Go.RowKit
namespace Re
open Cr
theorem right_yes {ep nu : Int} {xs : List (Int × Int)} {Z tx : ByteArray} (hz : (Z.size : Int) = 64 * total xs) : (chk ⟨ep, nu, 1, xs, Z, tx⟩ == 0) = decide (hB ⟨ep, nu, 1, xs, ⟨#[]⟩, tx⟩ = 0) := by
  have hn : need ⟨ep, nu, 1, xs, Z, tx⟩ = total xs := if_pos rfl
  have hh : hB ⟨ep, nu, 1, xs, Z, tx⟩ = hB ⟨ep, nu, 1, xs, ⟨#[]⟩, tx⟩ := rfl
  unfold chk
  rw [hn, hh]
  by_cases h : hB ⟨ep, nu, 1, xs, ⟨#[]⟩, tx⟩ = 0
  · rw [if_pos h, if_neg (by simp only; omega), if_pos (by simp only; omega)]
    simp [h]
  · rw [if_neg h]
    simp [h]
theorem right_no {ep nu ki : Int} {xs : List (Int × Int)} {tx : ByteArray} (hz : ¬ (ki = 1 ∧ allB xs = true ∧ total xs ≤ 512)) : (chk ⟨ep, nu, ki, xs, ⟨#[]⟩, tx⟩ == 0) = decide (hB ⟨ep, nu, ki, xs, ⟨#[]⟩, tx⟩ = 0) := by
  by_cases h : hB ⟨ep, nu, ki, xs, ⟨#[]⟩, tx⟩ = 0
  · have hk : ki ≠ 1 := by
      obtain ⟨-, -, -, -, h5⟩ := hB_ok h
      simp only at h5
      rcases h5 with h5 | h5 | h5
      · exact absurd ⟨h5.1, h5.2.2.2.2.1, h5.2.2.2.2.2⟩ hz
      · omega
      · omega
    have hn : need ⟨ep, nu, ki, xs, ⟨#[]⟩, tx⟩ = 0 := if_neg hk
    unfold chk
    rw [hn, if_pos h, if_neg (by rintro ⟨_, x⟩; exact absurd x (Nat.lt_irrefl 0)), if_pos (by show ((0 : Nat) : Int) = 0 * 64; rfl)]
    simp [h]
  · unfold chk
    rw [if_neg h]
    simp [h]
set_option maxHeartbeats 4000000 in
theorem right_any (ep nu ki : Int) (a : Option Addr) (n cap : Nat) (xs : List (Int × Int)) (tx : ByteArray) (W : World) (T : Tab W) (hS : Sl W a n xs) (hn : n ≤ 1000) (ht : tx.size ≤ 9223372036854775807) :
    Calls Tryd.prog 37 #[.agg #[.int .i64 ep, .int .i64 nu, .int .i64 ki, .slice a n cap, .string ⟨#[]⟩, .string tx]] W fun e w' => e = .returned (.bool (decide (hB ⟨ep, nu, ki, xs, ⟨#[]⟩, tx⟩ = 0))) ∧ Below W.heap.size W w' := by
  have hLn := hide hS.len
  have hAll : ∀ (w : World) (h : Sl w a n xs), _ := fun w h => all_any a n cap xs w h
  by_cases hk : ki = 1
  · subst hk
    by_cases al : allB xs = true
    · have hTo : ∀ (w : World) (h : Sl w a n xs), _ := fun w h => rtotal_any a n cap xs w h al hn
      rw [al] at hAll
      have htp := sumTo_pos al xs.length (Nat.le_refl _)
      obtain ⟨t, htt⟩ : ∃ t : Nat, (t : Int) = total xs := ⟨(total xs).toNat, by unfold total; omega⟩
      have htb : t ≤ 65536 * 1000 := by have := hLn.out; unfold total at htt; omega
      rw [← htt] at hTo
      by_cases t5 : t ≤ 512
      · have hZz : (str (List.replicate (64 * t) 0)).size = 64 * t := by rw [str_size, List.length_replicate]
        obtain ⟨Z, hZ⟩ : ∃ Z, Hid (str (List.replicate (64 * t) 0) = Z) := ⟨_, rfl⟩
        rw [hZ.out] at hZz
        have hR := hide (right_yes (ep := ep) (nu := nu) (xs := xs) (Z := Z) (tx := tx) (by omega))
        have hCk : ∀ (w : World) (h : Sl w a n xs), _ := fun w h => rcheck_any ep nu 1 a n cap xs Z tx w h ht (by omega)
        obtain ⟨C, hC⟩ : ∃ C, Hid (chk ⟨ep, nu, 1, xs, Z, tx⟩ = C) := ⟨_, rfl⟩
        rw [hC.out] at hCk hR
        have t5' : (t : Int) ≤ 512 := by omega
        replace htt := hide htt
        clear htp htb
        have bX := below_alloc W (.cells #[.int .i64 ep, .int .i64 nu, .int .i64 1, .slice a n cap, .string ⟨#[]⟩, .string tx] 29)
        have hX : RAt (W.alloc (.cells #[.int .i64 ep, .int .i64 nu, .int .i64 1, .slice a n cap, .string ⟨#[]⟩, .string tx] 29)) W.heap.size ep nu 1 (.slice a n cap) ⟨#[]⟩ tx := ⟨boxR W _ _ _ _ _ _ 29, fun i => by simp⟩
        generalize hW1 : W.alloc (.cells #[.int .i64 ep, .int .i64 nu, .int .i64 1, .slice a n cap, .string ⟨#[]⟩, .string tx] 29) = w1 at *
        have hS1 := hS.later bX
        have c2 := hX.box.c2
        have c3 := hX.box.c3
        go_enter Tryd.func37, Tryd.ntmps37
        go_wp2_with fail
        refine (hAll _ hS1).mono ?_
        rintro e w2 ⟨rfl, b2⟩
        have B2 := bX.trans (b2.mono bX.size)
        have hX2 := hX.later b2
        have hS2 := hS1.later b2
        clear hW1 c2 c3 hX hS1 bX b2 hAll
        have c3 := hX2.box.c3
        go_wp2_with fail
        refine (hTo _ hS2).mono ?_
        rintro e w3 ⟨rfl, b3⟩
        have B3 := B2.trans (b3.mono B2.size)
        have hX3 := hX2.later b3
        have hS3 := hS2.later b3
        clear c3 hX2 hS2 B2 b3
        have c3 := hX3.box.c3
        go_wp2_with fail
        refine (hTo _ hS3).mono ?_
        rintro e w4 ⟨rfl, b4⟩
        have B4 := B3.trans (b4.mono B3.size)
        have hX4 := hX3.later b4
        have hS4 := hS3.later b4
        clear c3 hX3 hS3 B3 b4 hTo
        have hmk : (Instr.makeSlice 52 (.int .i64 ((t : Int) * 64)) (.int .i64 ((t : Int) * 64))).run Tryd.prog w4 = .ok (.slice (some ⟨w4.heap.size, 0, none⟩) (64 * t) (64 * t)) (w4.alloc (.cells (zs (64 * t)) 5)) := by
          have := make_bytes (N := 64 * t) (by omega) w4
          rwa [show ((64 * t : Nat) : Int) = (t : Int) * 64 by omega] at this
        have hmk2 : (Instr.makeSlice 52 (.int .i64 (64 * (t : Int))) (.int .i64 (64 * (t : Int)))).run Tryd.prog w4 = .ok (.slice (some ⟨w4.heap.size, 0, none⟩) (64 * t) (64 * t)) (w4.alloc (.cells (zs (64 * t)) 5)) := by
          have := make_bytes (N := 64 * t) (by omega) w4
          rwa [show ((64 * t : Nat) : Int) = 64 * (t : Int) by omega] at this
        have hcv : (convert 52 9 (.slice (some ⟨w4.heap.size, 0, none⟩) (64 * t) (64 * t))).run Tryd.prog (w4.alloc (.cells (zs (64 * t)) 5)) = .ok (.string Z) (w4.alloc (.cells (zs (64 * t)) 5)) := by rw [← hZ.out]; exact conv_rep (fun i hi => by simp [zs_get hi])
        have b5 := below_alloc w4 (.cells (zs (64 * t)) 5)
        generalize hW5 : w4.alloc (.cells (zs (64 * t)) 5) = w5 at *
        have B5 := B4.trans (b5.mono B4.size)
        have hX5 := hX4.later b5
        have hS5 := hS4.later b5
        clear hX4 hS4 B4 hW5 b5
        have hne : ∀ g, (∃ o, a = some ⟨g, o, none⟩) → xs ≠ [] → g ≠ W.heap.size := by
          rintro g ⟨o, rfl⟩ hx
          have hl : 0 < xs.length := by cases xs with | nil => exact absurd rfl hx | cons _ _ => simp
          obtain ⟨b, off, hab, hbl, -, -⟩ := hS.cells 0 hl
          simp only [Option.some.injEq, Addr.mk.injEq, and_true] at hab
          have := hab.1
          omega
        have c4 := hX5.box.c4
        have f4 := hX5.fr 4
        have kS := Keep.setCell (X := fun k => k = W.heap.size) w5 ⟨W.heap.size, 4, none⟩ (.string Z) rfl
        have hX6 := hX5.set4 Z
        have hS6 : Sl (w5.setCell ⟨W.heap.size, 4, none⟩ (.string Z)) a n xs := ⟨hS5.len, hS5.most, hS5.fit, fun i hi => by
          obtain ⟨b, off, ha, hbl, d0, d1⟩ := hS5.cells i hi
          have hb := hne b ⟨off, ha⟩ (fun x => by rw [x] at hi; simp at hi)
          exact ⟨b, off, ha, by rw [setSize]; exact hbl, keep_cell kS hbl hb d0, keep_cell kS hbl hb d1⟩⟩
        have B6 := kS.below (B := W.heap.size) B5.size (fun k hk x => by omega)
        replace B6 := B5.trans B6
        have c3 := hX5.box.c3
        generalize hW6 : w5.setCell ⟨W.heap.size, 4, none⟩ (.string Z) = w6 at *
        clear hX5 hS5 B5 kS hne
        have x0 := hX6.box.c0
        have x1 := hX6.box.c1
        have x2 := hX6.box.c2
        have x3 := hX6.box.c3
        have x4 := hX6.box.c4
        have x5 := hX6.box.c5
        go_wp2_with fail
        refine (hCk _ hS6).mono ?_
        rintro e w7 ⟨rfl, b7⟩
        have B7 := B6.trans (b7.mono B6.size)
        clear hW6 hX6 hS6 B6 b7 hCk x0 x1 x2 x3 x4 x5 c3 c4 f4 hmk hmk2 hcv
        go_wp2
        go_ret
        exact ⟨ret_bool hR.out, B7⟩
      · have hR := hide (right_no (ep := ep) (nu := nu) (ki := 1) (xs := xs) (tx := tx) (by rintro ⟨_, _, x⟩; omega))
        have hCk : ∀ (w : World) (h : Sl w a n xs), _ := fun w h => rcheck_any ep nu 1 a n cap xs ⟨#[]⟩ tx w h ht (by decide)
        generalize chk ⟨ep, nu, 1, xs, ⟨#[]⟩, tx⟩ = C at *
        have t5' : ¬ (t : Int) ≤ 512 := by omega
        have t6 : (512 : Int) < (t : Int) := by omega
        replace htt := hide htt
        clear htp
        go_enter Tryd.func37, Tryd.ntmps37
        have kh1 := below_alloc W (.cells #[.int .i64 ep, .int .i64 nu, .int .i64 1, .slice a n cap, .string ⟨#[]⟩, .string tx] 29)
        replace hS := hS.later kh1
        have kB1 := kh1
        have kT1 := T.later kh1
        have X := boxR W (ep) (nu) (1) (.slice a n cap) (⟨#[]⟩) (tx) 29
        clear kh1
        have Xf0_2 := X.c0
        have Xf1_2 := X.c1
        have Xf2_2 := X.c2
        have Xf3_2 := X.c3
        have Xf4_2 := X.c4
        have Xf5_2 := X.c5
        go_wp2_with fail
        refine (hAll _ hS).mono ?_
        rintro e kw3 ⟨rfl, kh3⟩
        clear Xf0_2 Xf1_2 Xf2_2 Xf3_2 Xf4_2 Xf5_2
        replace X := X.later (kh3.mono X.lt)
        replace hS := hS.later kh3
        have kB3 := kB1.trans (kh3.mono kB1.size)
        clear kB1
        have kT3 := kT1.later kh3
        clear kT1
        clear kh3 hAll
        have Xf0_4 := X.c0
        have Xf1_4 := X.c1
        have Xf2_4 := X.c2
        have Xf3_4 := X.c3
        have Xf4_4 := X.c4
        have Xf5_4 := X.c5
        go_wp2_with fail
        refine (hTo _ hS).mono ?_
        rintro e kw5 ⟨rfl, kh5⟩
        clear Xf0_4 Xf1_4 Xf2_4 Xf3_4 Xf4_4 Xf5_4
        replace X := X.later (kh5.mono X.lt)
        replace hS := hS.later kh5
        have kB5 := kB3.trans (kh5.mono kB3.size)
        clear kB3
        have kT5 := kT3.later kh5
        clear kT3
        clear kh5 hTo
        have Xf0_6 := X.c0
        have Xf1_6 := X.c1
        have Xf2_6 := X.c2
        have Xf3_6 := X.c3
        have Xf4_6 := X.c4
        have Xf5_6 := X.c5
        go_wp2_with fail
        refine (hCk _ hS).mono ?_
        rintro e kw7 ⟨rfl, kh7⟩
        clear Xf0_6 Xf1_6 Xf2_6 Xf3_6 Xf4_6 Xf5_6
        replace X := X.later (kh7.mono X.lt)
        replace hS := hS.later kh7
        have kB7 := kB5.trans (kh7.mono kB5.size)
        clear kB5
        have kT7 := kT5.later kh7
        clear kT5
        clear kh7 hCk
        have Xf0_8 := X.c0
        have Xf1_8 := X.c1
        have Xf2_8 := X.c2
        have Xf3_8 := X.c3
        have Xf4_8 := X.c4
        have Xf5_8 := X.c5
        go_wp2
        go_ret
        exact ⟨ret_bool hR.out, kB7⟩
    · have hR := hide (right_no (ep := ep) (nu := nu) (ki := 1) (xs := xs) (tx := tx) (by rintro ⟨_, x, _⟩; exact al x))
      have hCk : ∀ (w : World) (h : Sl w a n xs), _ := fun w h => rcheck_any ep nu 1 a n cap xs ⟨#[]⟩ tx w h ht (by decide)
      generalize chk ⟨ep, nu, 1, xs, ⟨#[]⟩, tx⟩ = C at *
      have al2 : allB xs = false := by simpa using al
      rw [al2] at hAll
      go_enter Tryd.func37, Tryd.ntmps37
      have kh1 := below_alloc W (.cells #[.int .i64 ep, .int .i64 nu, .int .i64 1, .slice a n cap, .string ⟨#[]⟩, .string tx] 29)
      replace hS := hS.later kh1
      have kB1 := kh1
      have kT1 := T.later kh1
      have X := boxR W (ep) (nu) (1) (.slice a n cap) (⟨#[]⟩) (tx) 29
      clear kh1
      have Xf0_2 := X.c0
      have Xf1_2 := X.c1
      have Xf2_2 := X.c2
      have Xf3_2 := X.c3
      have Xf4_2 := X.c4
      have Xf5_2 := X.c5
      go_wp2_with fail
      refine (hAll _ hS).mono ?_
      rintro e kw3 ⟨rfl, kh3⟩
      clear Xf0_2 Xf1_2 Xf2_2 Xf3_2 Xf4_2 Xf5_2
      replace X := X.later (kh3.mono X.lt)
      replace hS := hS.later kh3
      have kB3 := kB1.trans (kh3.mono kB1.size)
      clear kB1
      have kT3 := kT1.later kh3
      clear kT1
      clear kh3 hAll
      have Xf0_4 := X.c0
      have Xf1_4 := X.c1
      have Xf2_4 := X.c2
      have Xf3_4 := X.c3
      have Xf4_4 := X.c4
      have Xf5_4 := X.c5
      go_wp2_with fail
      refine (hCk _ hS).mono ?_
      rintro e kw5 ⟨rfl, kh5⟩
      clear Xf0_4 Xf1_4 Xf2_4 Xf3_4 Xf4_4 Xf5_4
      replace X := X.later (kh5.mono X.lt)
      replace hS := hS.later kh5
      have kB5 := kB3.trans (kh5.mono kB3.size)
      clear kB3
      have kT5 := kT3.later kh5
      clear kT3
      clear kh5 hCk
      have Xf0_6 := X.c0
      have Xf1_6 := X.c1
      have Xf2_6 := X.c2
      have Xf3_6 := X.c3
      have Xf4_6 := X.c4
      have Xf5_6 := X.c5
      go_wp2
      go_ret
      exact ⟨ret_bool hR.out, kB5⟩
  · have hR := hide (right_no (ep := ep) (nu := nu) (ki := ki) (xs := xs) (tx := tx) (by rintro ⟨x, _⟩; exact hk x))
    have hCk : ∀ (w : World) (h : Sl w a n xs), _ := fun w h => rcheck_any ep nu ki a n cap xs ⟨#[]⟩ tx w h ht (by decide)
    generalize chk ⟨ep, nu, ki, xs, ⟨#[]⟩, tx⟩ = C at *
    have hk1 : (ki == 1) = false := by rwa [beq_eq_false_iff_ne]
    go_enter Tryd.func37, Tryd.ntmps37
    have kh1 := below_alloc W (.cells #[.int .i64 ep, .int .i64 nu, .int .i64 ki, .slice a n cap, .string ⟨#[]⟩, .string tx] 29)
    replace hS := hS.later kh1
    have kB1 := kh1
    have kT1 := T.later kh1
    have X := boxR W (ep) (nu) (ki) (.slice a n cap) (⟨#[]⟩) (tx) 29
    clear kh1
    have Xf0_2 := X.c0
    have Xf1_2 := X.c1
    have Xf2_2 := X.c2
    have Xf3_2 := X.c3
    have Xf4_2 := X.c4
    have Xf5_2 := X.c5
    go_wp2_with fail
    refine (hCk _ hS).mono ?_
    rintro e kw3 ⟨rfl, kh3⟩
    clear Xf0_2 Xf1_2 Xf2_2 Xf3_2 Xf4_2 Xf5_2
    replace X := X.later (kh3.mono X.lt)
    replace hS := hS.later kh3
    have kB3 := kB1.trans (kh3.mono kB1.size)
    clear kB1
    have kT3 := kT1.later kh3
    clear kT1
    clear kh3 hCk
    have Xf0_4 := X.c0
    have Xf1_4 := X.c1
    have Xf2_4 := X.c2
    have Xf3_4 := X.c3
    have Xf4_4 := X.c4
    have Xf5_4 := X.c5
    go_wp2
    go_ret
    exact ⟨ret_bool hR.out, kB3⟩
end Re
end Go.Proofs.YtnpbgjafahhadaaDoor
