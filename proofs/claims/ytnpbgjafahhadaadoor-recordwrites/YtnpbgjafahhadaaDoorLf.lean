/- The law RecordWrites, walked. -/
import Derived.Test.YtnpbgjafahhadaaDoorLb
import Derived.Test.YtnpbgjafahhadaaDoorTa
import Derived.Test.YtnpbgjafahhadaaDoorTb
namespace Go.Proofs.YtnpbgjafahhadaaDoor
open Go.RowKit
namespace Re
open Cr
theorem pts_fit {da : ByteArray} {xs : List (Int × Int)} (hd : da.size ≤ 9223372036854775807) (n : Nat) : ∀ s ∈ pts da xs n, s.size ≤ 9223372036854775807 := by
  intro s hs
  simp only [pts, List.mem_map] at hs
  obtain ⟨i, _, rfl⟩ := hs
  unfold pt
  rw [ByteArray.size_extract]
  omega
set_option maxHeartbeats 8000000 in
set_option maxRecDepth 20000 in
theorem recordWrites_walk (ep nu ki : Int) (a : Option Addr) (n cap : Nat) (xs : List (Int × Int)) (da tx : ByteArray) (W : World) (T : Tab W) (hS : Sl W a n xs) (ht : tx.size ≤ 9223372036854775807) (hd : da.size ≤ 9223372036854775807) : Calls Tryd.prog 3 #[.agg #[.int .i64 ep, .int .i64 nu, .int .i64 ki, .slice a n cap, .string da, .string tx]] W fun e w' => e = .returned (.bool true) ∧ Below W.heap.size W w' := by
  have hFe : ∀ (w : World), _ := fun w => few_rec_any ep nu ki a n cap xs da tx w hS.len hS.most ht hd
  have hPl : ∀ (w : World), _ := fun w => plain_any ep nu ki a n cap da tx w
  have hCk : ∀ (w : World) (h : Sl w a n xs), _ := fun w h => rcheck_any ep nu ki a n cap xs da tx w h ht hd
  have hCh : ∀ (w : World) (h : Sl w a n xs), _ := fun w h => check_any ep nu ki a n cap xs da tx w h ht hd
  have hEn : ∀ (w : World) (T : Tab w) (h : Sl w a n xs), _ := fun w T h => encode_rec_any ep nu ki a n cap xs da tx w T h ht hd
  have hSi : ∀ (w : World) (T : Tab w) (h : Sl w a n xs), _ := fun w T h => size_rec_any ep nu ki a n cap xs da tx w T h ht hd
  have hPa : ∀ (w : World) (h : Sl w a n xs), _ := fun w h => parts_any ep nu ki a n cap xs da tx w h ht hd
  have hLn := hide hS.len
  cases hf : fewB ⟨ep, nu, ki, xs, da, tx⟩ with
  | false =>
    rw [hf] at hFe
    clear hf hPl hCk hCh hEn hSi hPa
    go_enter Tryd.func3, Tryd.ntmps3
    have kh1 := below_alloc W (.cells #[.int .i64 ep, .int .i64 nu, .int .i64 ki, .slice a n cap, .string da, .string tx] 24)
    replace hS := hS.later kh1
    have kB1 := kh1
    have kT1 := T.later kh1
    have X := boxR W (ep) (nu) (ki) (.slice a n cap) (da) (tx) 24
    generalize kW1 : W.alloc (.cells #[.int .i64 ep, .int .i64 nu, .int .i64 ki, .slice a n cap, .string da, .string tx] 24) = kw1 at *
    clear kh1
    have Xf0_2 := X.c0
    have Xf1_2 := X.c1
    have Xf2_2 := X.c2
    have Xf3_2 := X.c3
    have Xf4_2 := X.c4
    have Xf5_2 := X.c5
    go_wp2_with fail
    refine (hFe _).mono ?_
    rintro e kw3 ⟨rfl, kh3⟩
    clear Xf0_2 Xf1_2 Xf2_2 Xf3_2 Xf4_2 Xf5_2 kW1
    replace X := X.later (kh3.mono X.lt)
    replace hS := hS.later kh3
    have kB3 := kB1.trans (kh3.mono kB1.size)
    clear kB1
    have kT3 := kT1.later kh3
    clear kT1
    clear kh3 hFe
    have Xf0_4 := X.c0
    have Xf1_4 := X.c1
    have Xf2_4 := X.c2
    have Xf3_4 := X.c3
    have Xf4_4 := X.c4
    have Xf5_4 := X.c5
    go_wp2_with fail
    refine (awake_any _ kT3).mono ?_
    rintro e kw5 ⟨rfl, kh5⟩
    clear Xf0_4 Xf1_4 Xf2_4 Xf3_4 Xf4_4 Xf5_4
    replace X := X.later (kh5.mono X.lt)
    replace hS := hS.later kh5
    have kB5 := kB3.trans (kh5.mono kB3.size)
    clear kB3
    have kT5 := kT3.later kh5
    clear kT3
    clear kh5 
    have Xf0_6 := X.c0
    have Xf1_6 := X.c1
    have Xf2_6 := X.c2
    have Xf3_6 := X.c3
    have Xf4_6 := X.c4
    have Xf5_6 := X.c5
    go_wp2
    go_ret
    exact ⟨rfl, kB5⟩
  | true =>
    rw [hf] at hFe
    obtain ⟨fd, ft, fs⟩ := few_sizes hf
    simp only at fd ft fs
    clear hf
    by_cases hc : chk ⟨ep, nu, ki, xs, da, tx⟩ = 0
    · have hHd : ∀ (w : World) (T : Tab w) (h : Sl w a n xs), _ := fun w T h => rhead_any ep nu ki a n cap xs da tx w T h hd (chk_head hc)
      obtain ⟨z1, z2, z3⟩ := enc_sizes hc
      obtain ⟨q3, q4⟩ := nd_need (chk_head hc)
      have h19 := body_hn (chk_head hc) (more 0 (bs da))
      rw [encR, if_pos hc, hc] at hEn
      rw [z3] at hSi
      rw [hc] at hCk hCh
      have hB := hB_ok (chk_head hc)
      have hda := chk_data hc
      have hen : str (hdB (body ⟨ep, nu, ki, xs, da, tx⟩ (more 0 (bs da)))) ++ da = enc ⟨ep, nu, ki, xs, da, tx⟩ := rfl
      simp only at z1 z2 q4 h19 hB hda
      generalize str (hdB (body ⟨ep, nu, ki, xs, da, tx⟩ (more 0 (bs da)))) = HD at *
      generalize hn (body ⟨ep, nu, ki, xs, da, tx⟩ (more 0 (bs da))).length = H at *
      generalize nd ⟨ep, nu, ki, xs, da, tx⟩ = D at *
      generalize enc ⟨ep, nu, ki, xs, da, tx⟩ = E at *
      have hez : E.size = HD.size + da.size := by rw [← hen]; simp
      have e1 : ((64 : Int) * ((H + D : Nat) : Int) == (E.size : Int)) = true := by rw [beq_iff_eq, z2]; omega
      have e1b : ((64 : Int) * ((H + D : Nat) : Int) != (E.size : Int)) = false := by rw [bne, e1]; rfl
      have hb : H + D ≤ 600 := by omega
      have hb1 : E.size ≤ 38400 := by omega
      have hb2 : HD.size ≤ 38400 := by omega
      have hb3 : da.size ≤ 38400 := by omega
      generalize hN : H + D = N at *
      replace hez := hide hez
      replace hN := hide hN
      replace z1 := hide z1
      replace z2 := hide z2
      clear q3 q4 h19 z3
      by_cases hk : ki = 1
      · subst hk
        rw [if_pos ⟨rfl, hc⟩] at hPa
        have hk : 1 ≤ xs.length ∧ xs.length ≤ 64 ∧ allB xs = true ∧ total xs ≤ 512 := by
          obtain ⟨-, -, -, -, h5 | h5 | h5⟩ := hB
          · exact ⟨h5.2.2.1, h5.2.2.2.1, h5.2.2.2.2.1, h5.2.2.2.2.2⟩
          · omega
          · omega
        obtain ⟨k1, k2, al, k4⟩ := hk
        replace hda : (da.size : Int) = 64 * total xs := by
          rw [hda]
          show (if (1 : Int) = 1 then total xs else 0) * 64 = _
          rw [if_pos rfl]
          omega
        have hn64 : n ≤ 64 := by have := hLn.out; omega
        replace hda := hide hda
        clear hB hc
        go_enter Tryd.func3, Tryd.ntmps3
        have kh1 := below_alloc W (.cells #[.int .i64 ep, .int .i64 nu, .int .i64 1, .slice a n cap, .string da, .string tx] 24)
        replace hS := hS.later kh1
        have kB1 := kh1
        have kT1 := T.later kh1
        have X := boxR W (ep) (nu) 1 (.slice a n cap) (da) (tx) 24
        generalize kW1 : W.alloc (.cells #[.int .i64 ep, .int .i64 nu, .int .i64 1, .slice a n cap, .string da, .string tx] 24) = kw1 at *
        clear kh1
        have Xf0_2 := X.c0
        have Xf1_2 := X.c1
        have Xf2_2 := X.c2
        have Xf3_2 := X.c3
        have Xf4_2 := X.c4
        have Xf5_2 := X.c5
        go_wp2_with fail
        refine (hFe _).mono ?_
        rintro e kw3 ⟨rfl, kh3⟩
        clear Xf0_2 Xf1_2 Xf2_2 Xf3_2 Xf4_2 Xf5_2 kW1
        replace X := X.later (kh3.mono X.lt)
        replace hS := hS.later kh3
        have kB3 := kB1.trans (kh3.mono kB1.size)
        clear kB1
        have kT3 := kT1.later kh3
        clear kT1
        clear kh3 hFe
        have Xf0_4 := X.c0
        have Xf1_4 := X.c1
        have Xf2_4 := X.c2
        have Xf3_4 := X.c3
        have Xf4_4 := X.c4
        have Xf5_4 := X.c5
        go_wp2_with fail
        refine (hPl _).mono ?_
        rintro e kw5 ⟨rfl, kh5⟩
        clear Xf0_4 Xf1_4 Xf2_4 Xf3_4 Xf4_4 Xf5_4
        replace X := X.later (kh5.mono X.lt)
        replace hS := hS.later kh5
        have kB5 := kB3.trans (kh5.mono kB3.size)
        clear kB3
        have kT5 := kT3.later kh5
        clear kT3
        clear kh5 
        have Xf0_6 := X.c0
        have Xf1_6 := X.c1
        have Xf2_6 := X.c2
        have Xf3_6 := X.c3
        have Xf4_6 := X.c4
        have Xf5_6 := X.c5
        go_wp2_with fail
        refine (hCk _ hS).mono ?_
        rintro e kw7 ⟨rfl, kh7⟩
        clear Xf0_6 Xf1_6 Xf2_6 Xf3_6 Xf4_6 Xf5_6
        replace X := X.later (kh7.mono X.lt)
        replace hS := hS.later kh7
        have kB7 := kB5.trans (kh7.mono kB5.size)
        clear kB5
        have kT7 := kT5.later kh7
        clear kT5
        clear kh7 hCk
        have Xf0_8 := X.c0
        have Xf1_8 := X.c1
        have Xf2_8 := X.c2
        have Xf3_8 := X.c3
        have Xf4_8 := X.c4
        have Xf5_8 := X.c5
        go_wp2_with fail
        refine (hEn _ kT7 hS).mono ?_
        rintro e kw9 ⟨rfl, kh9⟩
        clear Xf0_8 Xf1_8 Xf2_8 Xf3_8 Xf4_8 Xf5_8
        replace X := X.later (kh9.mono X.lt)
        replace hS := hS.later kh9
        have kB9 := kB7.trans (kh9.mono kB7.size)
        clear kB7
        have kT9 := kT7.later kh9
        clear kT7
        clear kh9 hEn
        have Xf0_10 := X.c0
        have Xf1_10 := X.c1
        have Xf2_10 := X.c2
        have Xf3_10 := X.c3
        have Xf4_10 := X.c4
        have Xf5_10 := X.c5
        go_wp2_with fail
        refine (hCh _ hS).mono ?_
        rintro e kw11 ⟨rfl, kh11⟩
        clear Xf0_10 Xf1_10 Xf2_10 Xf3_10 Xf4_10 Xf5_10
        replace X := X.later (kh11.mono X.lt)
        replace hS := hS.later kh11
        have kB11 := kB9.trans (kh11.mono kB9.size)
        clear kB9
        have kT11 := kT9.later kh11
        clear kT9
        clear kh11 hCh
        have Xf0_12 := X.c0
        have Xf1_12 := X.c1
        have Xf2_12 := X.c2
        have Xf3_12 := X.c3
        have Xf4_12 := X.c4
        have Xf5_12 := X.c5
        clear Xf0_12 Xf1_12 Xf2_12 Xf3_12 Xf4_12 Xf5_12
        have Xq0 : ∀ p : Later kw11, p.val.cell? ⟨W.heap.size, 0, none⟩ = some (.int .i64 ep) := fun p => (X.later (p.below.mono X.lt)).c0
        have Xq1 : ∀ p : Later kw11, p.val.cell? ⟨W.heap.size, 1, none⟩ = some (.int .i64 nu) := fun p => (X.later (p.below.mono X.lt)).c1
        have Xq2 : ∀ p : Later kw11, p.val.cell? ⟨W.heap.size, 2, none⟩ = some (.int .i64 1) := fun p => (X.later (p.below.mono X.lt)).c2
        have Xq3 : ∀ p : Later kw11, p.val.cell? ⟨W.heap.size, 3, none⟩ = some (.slice a n cap) := fun p => (X.later (p.below.mono X.lt)).c3
        have Xq4 : ∀ p : Later kw11, p.val.cell? ⟨W.heap.size, 4, none⟩ = some (.string da) := fun p => (X.later (p.below.mono X.lt)).c4
        have Xq5 : ∀ p : Later kw11, p.val.cell? ⟨W.heap.size, 5, none⟩ = some (.string tx) := fun p => (X.later (p.below.mono X.lt)).c5
        have hne13 := later_ne kw11
        go_wp2
        refine wp_region_later (by kernel_rfl) (by kernel_rfl) ?_
        (repeat (first | go_big_quiet_skip | (go_big_quiet_want; go_big_quiet_op; go_big_quiet_on)))
        (go_big_quiet_want; go_big_quiet_op; apply Exists.intro; refine ⟨fun p => ?_, ?_⟩; (· exact later_of (hPl p.val)); go_big_quiet_on)
        (repeat (first | go_big_quiet_skip | (go_big_quiet_want; go_big_quiet_op; go_big_quiet_on)))
        (go_big_quiet_want; go_big_quiet_op; apply Exists.intro; refine ⟨fun p => ?_, ?_⟩; (· exact later_of (hHd p.val (kT11.later p.below) (hS.later p.below))); go_big_quiet_on)
        (repeat (first | go_big_quiet_skip | (go_big_quiet_want; go_big_quiet_op; go_big_quiet_on)))
        (go_big_quiet_want; go_big_quiet_op; apply Exists.intro; refine ⟨fun p => ?_, ?_⟩; (· exact later_of (hSi p.val (kT11.later p.below) (hS.later p.below))); go_big_quiet_on)
        (repeat (first | go_big_quiet_skip | (go_big_quiet_want; go_big_quiet_op; go_big_quiet_on)))
        refine wpQuiet_nil ?_
        rintro _ ⟨p13, rfl⟩
        have kh13 := p13.below
        clear Xq0 Xq1 Xq2 Xq3 Xq4 Xq5 hne13
        replace X := X.later (kh13.mono X.lt)
        replace hS := hS.later kh13
        have kB13 := kB11.trans (kh13.mono kB11.size)
        clear kB11
        have kT13 := kT11.later kh13
        clear kT11
        generalize p13.val = kw13 at *
        clear kh13
        have Xf0_14 := X.c0
        have Xf1_14 := X.c1
        have Xf2_14 := X.c2
        have Xf3_14 := X.c3
        have Xf4_14 := X.c4
        have Xf5_14 := X.c5
        clear hPl hHd hSi
        go_wp2_with fail
        refine (hPa _ hS).mono ?_
        rintro e kw15 ⟨v1, rfl, hO, hF, kh15⟩
        clear Xf0_14 Xf1_14 Xf2_14 Xf3_14 Xf4_14 Xf5_14
        replace X := X.later (kh15.mono X.lt)
        replace hS := hS.later kh15
        have kB15 := kB13.trans (kh15.mono kB13.size)
        clear kB13
        have kT15 := kT13.later kh15
        clear kT13
        clear kh15 hPa
        clear hF
        obtain ⟨b1, cp1, rfl, hQ1⟩ := hO.ss (pts_fit hd n)
        simp only [pts_length] at hQ1 ⊢
        clear hO
        have Xf0_16 := X.c0
        have Xf1_16 := X.c1
        have Xf2_16 := X.c2
        have Xf3_16 := X.c3
        have Xf4_16 := X.c4
        have Xf5_16 := X.c5
        go_wp2
        go_loopw [7, 8] (fun s i wr => ∃ (j P : Nat), j ≤ n ∧ i = .int .i64 j ∧ s = .int .i64 (P : Nat) ∧ Hid ((P : Int) = 64 * sumTo xs j) ∧ Below kw15.heap.size kw15 wr) (fun _ i _ => n - (intOf i).toNat)
        case atStart => exact ⟨0, 0, Nat.zero_le _, rfl, rfl, rfl, Below.refl _ _⟩
        case round =>
          obtain ⟨j, P, hj, rfl, rfl, hP, hbr⟩ := hrel
          have X5 := X.later (hbr.mono X.lt)
          have hS5 := hS.later hbr
          have hQ5 := hQ1.later hbr
          have B5 := kB15.trans (hbr.mono kB15.size)
          have x3 := X5.c3
          have x4 := X5.c4
          by_cases hlt : j < n
          · have hjx : j < xs.length := by rw [← hLn.out]; exact hlt
            obtain ⟨b, off, hab, hbl, c0, c1⟩ := hS5.cells j hjx
            subst hab
            obtain ⟨b2, off2, hab2, hbl2, d0⟩ := hQ5.cells j _ (pts_get (da := da) (xs := xs) hlt)
            subst hab2
            have hm := mayB_iff.1 (allB_at al (k := j) hjx)
            have hs0 := sumTo_pos al j (by omega)
            have hs1 : sumTo xs (j + 1) ≤ total xs := by
              have := sumTo_mono al (k := j + 1) (xs.length - (j + 1)) (by omega)
              rw [show j + 1 + (xs.length - (j + 1)) = xs.length by omega] at this
              exact this
            have hs2 : sumTo xs (j + 1) = sumTo xs j + (nth xs j).2 := rfl
            have hex : pt da xs j = da.extract (64 * (sumTo xs j).toNat) (64 * (sumTo xs (j + 1)).toNat) := rfl
            generalize nth xs j = x at *
            obtain ⟨x1, x2⟩ := x
            simp only at hm c0 c1 hs2
            obtain ⟨m, rfl⟩ := Int.eq_ofNat_of_zero_le (show 0 ≤ x2 by omega)
            have hP2 := hP.out
            have hPn : 64 * (sumTo xs j).toNat = P := by omega
            have hPm : 64 * (sumTo xs (j + 1)).toNat = P + 64 * m := by omega
            have hNx := hide (show (((P + 64 * m : Nat)) : Int) = 64 * sumTo xs (j + 1) by omega)
            have hle : P + 64 * m ≤ da.size := by have := hda.out; omega
            rw [hPn, hPm] at hex
            have hpz : (pt da xs j).size = 64 * m := by rw [hex, ByteArray.size_extract]; omega
            clear hP2 hPn hPm hs2 hs1 hs0 hP
            obtain ⟨D, hD⟩ : ∃ D, Hid (pt da xs j = D) := ⟨_, rfl⟩
            rw [hD.out] at hex hpz d0
            have hsl : da.extract P (P + 64 * m) = D := hex.symm
            clear hex
            have hi1 : (P : Int) + 64 * (m : Int) ≤ (da.size : Int) := by omega
            have y3 : ∀ p : Later wr, p.val.cell? ⟨W.heap.size, 3, none⟩ = some (.slice (some ⟨b, off, none⟩) n cap) := fun p => (X5.later (p.below.mono X5.lt)).c3
            have y4 : ∀ p : Later wr, p.val.cell? ⟨W.heap.size, 4, none⟩ = some (.string da) := fun p => (X5.later (p.below.mono X5.lt)).c4
            have y1 : ∀ p : Later wr, p.val.cell? ⟨b, off + j * 2 + 1, none⟩ = some (.int .i64 ((m : Nat) : Int)) := fun p => lcell hbl c1 p
            have y2 : ∀ p : Later wr, p.val.cell? ⟨b2, off2 + j, none⟩ = some (.string D) := fun p => lcell hbl2 d0 p
            have hne := later_ne wr
            clear hS5 X5 hS X c0 c1 hQ5 hQ1
            go_wp2
            refine wp_region_later (by kernel_rfl) (by kernel_rfl) ?_
            (repeat (first | go_big_quiet_skip | (go_big_quiet_want; go_big_quiet_op; go_big_quiet_on)))
            refine wpQuiet_nil ?_
            rintro _ ⟨p, rfl⟩
            have B6 := hbr.trans (p.below.mono hbr.size)
            have e2 := y2 p
            generalize p.val = w9 at *
            clear y1 y2 y3 y4 hne B5 hbr x3 x4 d0
            go_wp2
            go_roundw
            case rel => exact ⟨j + 1, P + 64 * m, by omega, by go_num, by go_num, hNx, B6⟩
            case measure => simp [intOf]; omega
          · obtain rfl : j = n := by omega
            have hPd : (P : Int) = (da.size : Int) := by
              have := hP.out
              rw [this, hda.out, hLn.out]
              rfl
            have hPe : ((P : Int) == (da.size : Int)) = true := by rw [beq_iff_eq]; exact hPd
            have hPb : P ≤ 40000 := by omega
            clear hP hPd
            have T5 := kT15.later (by exact hbr)
            clear hS X hbr hQ1 kB15 kT15
            clear x3 x4
            have X5f0_201 := X5.c0
            have X5f1_201 := X5.c1
            have X5f2_201 := X5.c2
            have X5f3_201 := X5.c3
            have X5f4_201 := X5.c4
            have X5f5_201 := X5.c5
            go_wp2_with fail
            refine (awake_any _ T5).mono ?_
            rintro e vw202 ⟨rfl, vh202⟩
            clear X5f0_201 X5f1_201 X5f2_201 X5f3_201 X5f4_201 X5f5_201
            replace X5 := X5.later (vh202.mono X5.lt)
            replace hS5 := hS5.later vh202
            have vB202 := B5.trans (vh202.mono B5.size)
            clear B5
            have vT202 := T5.later vh202
            clear T5
            clear vh202 
            have X5f0_203 := X5.c0
            have X5f1_203 := X5.c1
            have X5f2_203 := X5.c2
            have X5f3_203 := X5.c3
            have X5f4_203 := X5.c4
            have X5f5_203 := X5.c5
            go_wp2
            go_ret
            exact ⟨rfl, vB202⟩
      · rw [if_neg (fun x => hk x.1)] at hPa
        have hk1 : (ki == 1) = false := by rwa [beq_eq_false_iff_ne]
        have hk2 : (ki != 1) = true := by simpa using hk
        clear hB hc hda
        go_enter Tryd.func3, Tryd.ntmps3
        have kh1 := below_alloc W (.cells #[.int .i64 ep, .int .i64 nu, .int .i64 ki, .slice a n cap, .string da, .string tx] 24)
        replace hS := hS.later kh1
        have kB1 := kh1
        have kT1 := T.later kh1
        have X := boxR W (ep) (nu) (ki) (.slice a n cap) (da) (tx) 24
        generalize kW1 : W.alloc (.cells #[.int .i64 ep, .int .i64 nu, .int .i64 ki, .slice a n cap, .string da, .string tx] 24) = kw1 at *
        clear kh1
        have Xf0_2 := X.c0
        have Xf1_2 := X.c1
        have Xf2_2 := X.c2
        have Xf3_2 := X.c3
        have Xf4_2 := X.c4
        have Xf5_2 := X.c5
        go_wp2_with fail
        refine (hFe _).mono ?_
        rintro e kw3 ⟨rfl, kh3⟩
        clear Xf0_2 Xf1_2 Xf2_2 Xf3_2 Xf4_2 Xf5_2 kW1
        replace X := X.later (kh3.mono X.lt)
        replace hS := hS.later kh3
        have kB3 := kB1.trans (kh3.mono kB1.size)
        clear kB1
        have kT3 := kT1.later kh3
        clear kT1
        clear kh3 hFe
        have Xf0_4 := X.c0
        have Xf1_4 := X.c1
        have Xf2_4 := X.c2
        have Xf3_4 := X.c3
        have Xf4_4 := X.c4
        have Xf5_4 := X.c5
        go_wp2_with fail
        refine (hPl _).mono ?_
        rintro e kw5 ⟨rfl, kh5⟩
        clear Xf0_4 Xf1_4 Xf2_4 Xf3_4 Xf4_4 Xf5_4
        replace X := X.later (kh5.mono X.lt)
        replace hS := hS.later kh5
        have kB5 := kB3.trans (kh5.mono kB3.size)
        clear kB3
        have kT5 := kT3.later kh5
        clear kT3
        clear kh5 
        have Xf0_6 := X.c0
        have Xf1_6 := X.c1
        have Xf2_6 := X.c2
        have Xf3_6 := X.c3
        have Xf4_6 := X.c4
        have Xf5_6 := X.c5
        go_wp2_with fail
        refine (hCk _ hS).mono ?_
        rintro e kw7 ⟨rfl, kh7⟩
        clear Xf0_6 Xf1_6 Xf2_6 Xf3_6 Xf4_6 Xf5_6
        replace X := X.later (kh7.mono X.lt)
        replace hS := hS.later kh7
        have kB7 := kB5.trans (kh7.mono kB5.size)
        clear kB5
        have kT7 := kT5.later kh7
        clear kT5
        clear kh7 hCk
        have Xf0_8 := X.c0
        have Xf1_8 := X.c1
        have Xf2_8 := X.c2
        have Xf3_8 := X.c3
        have Xf4_8 := X.c4
        have Xf5_8 := X.c5
        go_wp2_with fail
        refine (hEn _ kT7 hS).mono ?_
        rintro e kw9 ⟨rfl, kh9⟩
        clear Xf0_8 Xf1_8 Xf2_8 Xf3_8 Xf4_8 Xf5_8
        replace X := X.later (kh9.mono X.lt)
        replace hS := hS.later kh9
        have kB9 := kB7.trans (kh9.mono kB7.size)
        clear kB7
        have kT9 := kT7.later kh9
        clear kT7
        clear kh9 hEn
        have Xf0_10 := X.c0
        have Xf1_10 := X.c1
        have Xf2_10 := X.c2
        have Xf3_10 := X.c3
        have Xf4_10 := X.c4
        have Xf5_10 := X.c5
        go_wp2_with fail
        refine (hCh _ hS).mono ?_
        rintro e kw11 ⟨rfl, kh11⟩
        clear Xf0_10 Xf1_10 Xf2_10 Xf3_10 Xf4_10 Xf5_10
        replace X := X.later (kh11.mono X.lt)
        replace hS := hS.later kh11
        have kB11 := kB9.trans (kh11.mono kB9.size)
        clear kB9
        have kT11 := kT9.later kh11
        clear kT9
        clear kh11 hCh
        have Xf0_12 := X.c0
        have Xf1_12 := X.c1
        have Xf2_12 := X.c2
        have Xf3_12 := X.c3
        have Xf4_12 := X.c4
        have Xf5_12 := X.c5
        clear Xf0_12 Xf1_12 Xf2_12 Xf3_12 Xf4_12 Xf5_12
        have Xq0 : ∀ p : Later kw11, p.val.cell? ⟨W.heap.size, 0, none⟩ = some (.int .i64 ep) := fun p => (X.later (p.below.mono X.lt)).c0
        have Xq1 : ∀ p : Later kw11, p.val.cell? ⟨W.heap.size, 1, none⟩ = some (.int .i64 nu) := fun p => (X.later (p.below.mono X.lt)).c1
        have Xq2 : ∀ p : Later kw11, p.val.cell? ⟨W.heap.size, 2, none⟩ = some (.int .i64 ki) := fun p => (X.later (p.below.mono X.lt)).c2
        have Xq3 : ∀ p : Later kw11, p.val.cell? ⟨W.heap.size, 3, none⟩ = some (.slice a n cap) := fun p => (X.later (p.below.mono X.lt)).c3
        have Xq4 : ∀ p : Later kw11, p.val.cell? ⟨W.heap.size, 4, none⟩ = some (.string da) := fun p => (X.later (p.below.mono X.lt)).c4
        have Xq5 : ∀ p : Later kw11, p.val.cell? ⟨W.heap.size, 5, none⟩ = some (.string tx) := fun p => (X.later (p.below.mono X.lt)).c5
        have hne13 := later_ne kw11
        go_wp2
        refine wp_region_later (by kernel_rfl) (by kernel_rfl) ?_
        (repeat (first | go_big_quiet_skip | (go_big_quiet_want; go_big_quiet_op; go_big_quiet_on)))
        (go_big_quiet_want; go_big_quiet_op; apply Exists.intro; refine ⟨fun p => ?_, ?_⟩; (· exact later_of (hPl p.val)); go_big_quiet_on)
        (repeat (first | go_big_quiet_skip | (go_big_quiet_want; go_big_quiet_op; go_big_quiet_on)))
        (go_big_quiet_want; go_big_quiet_op; apply Exists.intro; refine ⟨fun p => ?_, ?_⟩; (· exact later_of (hHd p.val (kT11.later p.below) (hS.later p.below))); go_big_quiet_on)
        (repeat (first | go_big_quiet_skip | (go_big_quiet_want; go_big_quiet_op; go_big_quiet_on)))
        (go_big_quiet_want; go_big_quiet_op; apply Exists.intro; refine ⟨fun p => ?_, ?_⟩; (· exact later_of (hSi p.val (kT11.later p.below) (hS.later p.below))); go_big_quiet_on)
        (repeat (first | go_big_quiet_skip | (go_big_quiet_want; go_big_quiet_op; go_big_quiet_on)))
        refine wpQuiet_nil ?_
        rintro _ ⟨p13, rfl⟩
        have kh13 := p13.below
        clear Xq0 Xq1 Xq2 Xq3 Xq4 Xq5 hne13
        replace X := X.later (kh13.mono X.lt)
        replace hS := hS.later kh13
        have kB13 := kB11.trans (kh13.mono kB11.size)
        clear kB11
        have kT13 := kT11.later kh13
        clear kT11
        generalize p13.val = kw13 at *
        clear kh13
        have Xf0_14 := X.c0
        have Xf1_14 := X.c1
        have Xf2_14 := X.c2
        have Xf3_14 := X.c3
        have Xf4_14 := X.c4
        have Xf5_14 := X.c5
        clear hPl hHd hSi
        go_wp2_with fail
        refine (hPa _ hS).mono ?_
        rintro e kw15 ⟨v1, rfl, hO, hF, kh15⟩
        clear Xf0_14 Xf1_14 Xf2_14 Xf3_14 Xf4_14 Xf5_14
        replace X := X.later (kh15.mono X.lt)
        replace hS := hS.later kh15
        have kB15 := kB13.trans (kh15.mono kB13.size)
        clear kB13
        have kT15 := kT13.later kh15
        clear kT13
        clear kh15 hPa
        clear hF
        obtain ⟨b1, cp1, rfl, hQ1⟩ := hO.ss (by simp)
        simp only [List.length_nil] at hQ1
        clear hO hQ1
        have Xf0_16 := X.c0
        have Xf1_16 := X.c1
        have Xf2_16 := X.c2
        have Xf3_16 := X.c3
        have Xf4_16 := X.c4
        have Xf5_16 := X.c5
        go_wp2_with fail
        refine (awake_any _ kT15).mono ?_
        rintro e kw17 ⟨rfl, kh17⟩
        clear Xf0_16 Xf1_16 Xf2_16 Xf3_16 Xf4_16 Xf5_16
        replace X := X.later (kh17.mono X.lt)
        replace hS := hS.later kh17
        have kB17 := kB15.trans (kh17.mono kB15.size)
        clear kB15
        have kT17 := kT15.later kh17
        clear kT15
        clear kh17 
        have Xf0_18 := X.c0
        have Xf1_18 := X.c1
        have Xf2_18 := X.c2
        have Xf3_18 := X.c3
        have Xf4_18 := X.c4
        have Xf5_18 := X.c5
        go_wp2
        go_ret
        exact ⟨rfl, kB17⟩
    · rw [encR, if_neg hc] at hEn
      rw [sizeR, if_neg hc] at hSi
      rw [if_neg (fun x => hc x.2)] at hPa
      have hc0 : (chk ⟨ep, nu, ki, xs, da, tx⟩ == 0) = false := by rwa [beq_eq_false_iff_ne]
      have hc1 : (chk ⟨ep, nu, ki, xs, da, tx⟩ != 0) = true := by simpa using hc
      generalize chk ⟨ep, nu, ki, xs, da, tx⟩ = C at *
      go_enter Tryd.func3, Tryd.ntmps3
      have kh1 := below_alloc W (.cells #[.int .i64 ep, .int .i64 nu, .int .i64 ki, .slice a n cap, .string da, .string tx] 24)
      replace hS := hS.later kh1
      have kB1 := kh1
      have kT1 := T.later kh1
      have X := boxR W (ep) (nu) (ki) (.slice a n cap) (da) (tx) 24
      generalize kW1 : W.alloc (.cells #[.int .i64 ep, .int .i64 nu, .int .i64 ki, .slice a n cap, .string da, .string tx] 24) = kw1 at *
      clear kh1
      have Xf0_2 := X.c0
      have Xf1_2 := X.c1
      have Xf2_2 := X.c2
      have Xf3_2 := X.c3
      have Xf4_2 := X.c4
      have Xf5_2 := X.c5
      go_wp2_with fail
      refine (hFe _).mono ?_
      rintro e kw3 ⟨rfl, kh3⟩
      clear Xf0_2 Xf1_2 Xf2_2 Xf3_2 Xf4_2 Xf5_2 kW1
      replace X := X.later (kh3.mono X.lt)
      replace hS := hS.later kh3
      have kB3 := kB1.trans (kh3.mono kB1.size)
      clear kB1
      have kT3 := kT1.later kh3
      clear kT1
      clear kh3 hFe
      have Xf0_4 := X.c0
      have Xf1_4 := X.c1
      have Xf2_4 := X.c2
      have Xf3_4 := X.c3
      have Xf4_4 := X.c4
      have Xf5_4 := X.c5
      go_wp2_with fail
      refine (hPl _).mono ?_
      rintro e kw5 ⟨rfl, kh5⟩
      clear Xf0_4 Xf1_4 Xf2_4 Xf3_4 Xf4_4 Xf5_4
      replace X := X.later (kh5.mono X.lt)
      replace hS := hS.later kh5
      have kB5 := kB3.trans (kh5.mono kB3.size)
      clear kB3
      have kT5 := kT3.later kh5
      clear kT3
      clear kh5 
      have Xf0_6 := X.c0
      have Xf1_6 := X.c1
      have Xf2_6 := X.c2
      have Xf3_6 := X.c3
      have Xf4_6 := X.c4
      have Xf5_6 := X.c5
      go_wp2_with fail
      refine (hCk _ hS).mono ?_
      rintro e kw7 ⟨rfl, kh7⟩
      clear Xf0_6 Xf1_6 Xf2_6 Xf3_6 Xf4_6 Xf5_6
      replace X := X.later (kh7.mono X.lt)
      replace hS := hS.later kh7
      have kB7 := kB5.trans (kh7.mono kB5.size)
      clear kB5
      have kT7 := kT5.later kh7
      clear kT5
      clear kh7 hCk
      have Xf0_8 := X.c0
      have Xf1_8 := X.c1
      have Xf2_8 := X.c2
      have Xf3_8 := X.c3
      have Xf4_8 := X.c4
      have Xf5_8 := X.c5
      go_wp2_with fail
      refine (hEn _ kT7 hS).mono ?_
      rintro e kw9 ⟨rfl, kh9⟩
      clear Xf0_8 Xf1_8 Xf2_8 Xf3_8 Xf4_8 Xf5_8
      replace X := X.later (kh9.mono X.lt)
      replace hS := hS.later kh9
      have kB9 := kB7.trans (kh9.mono kB7.size)
      clear kB7
      have kT9 := kT7.later kh9
      clear kT7
      clear kh9 hEn
      have Xf0_10 := X.c0
      have Xf1_10 := X.c1
      have Xf2_10 := X.c2
      have Xf3_10 := X.c3
      have Xf4_10 := X.c4
      have Xf5_10 := X.c5
      go_wp2_with fail
      refine (hCh _ hS).mono ?_
      rintro e kw11 ⟨rfl, kh11⟩
      clear Xf0_10 Xf1_10 Xf2_10 Xf3_10 Xf4_10 Xf5_10
      replace X := X.later (kh11.mono X.lt)
      replace hS := hS.later kh11
      have kB11 := kB9.trans (kh11.mono kB9.size)
      clear kB9
      have kT11 := kT9.later kh11
      clear kT9
      clear kh11 hCh
      have Xf0_12 := X.c0
      have Xf1_12 := X.c1
      have Xf2_12 := X.c2
      have Xf3_12 := X.c3
      have Xf4_12 := X.c4
      have Xf5_12 := X.c5
      go_wp2_with fail
      refine (hSi _ kT11 hS).mono ?_
      rintro e kw13 ⟨rfl, kh13⟩
      clear Xf0_12 Xf1_12 Xf2_12 Xf3_12 Xf4_12 Xf5_12
      replace X := X.later (kh13.mono X.lt)
      replace hS := hS.later kh13
      have kB13 := kB11.trans (kh13.mono kB11.size)
      clear kB11
      have kT13 := kT11.later kh13
      clear kT11
      clear kh13 hSi
      have Xf0_14 := X.c0
      have Xf1_14 := X.c1
      have Xf2_14 := X.c2
      have Xf3_14 := X.c3
      have Xf4_14 := X.c4
      have Xf5_14 := X.c5
      go_wp2_with fail
      refine (hPa _ hS).mono ?_
      rintro e kw15 ⟨v1, rfl, hO, hF, kh15⟩
      clear Xf0_14 Xf1_14 Xf2_14 Xf3_14 Xf4_14 Xf5_14
      replace X := X.later (kh15.mono X.lt)
      replace hS := hS.later kh15
      have kB15 := kB13.trans (kh15.mono kB13.size)
      clear kB13
      have kT15 := kT13.later kh15
      clear kT13
      clear kh15 hPa
      clear hF
      obtain ⟨b1, cp1, rfl, hQ1⟩ := hO.ss (by simp)
      simp only [List.length_nil] at hQ1
      clear hO hQ1
      have Xf0_16 := X.c0
      have Xf1_16 := X.c1
      have Xf2_16 := X.c2
      have Xf3_16 := X.c3
      have Xf4_16 := X.c4
      have Xf5_16 := X.c5
      go_wp2_with fail
      refine (awake_any _ kT15).mono ?_
      rintro e kw17 ⟨rfl, kh17⟩
      clear Xf0_16 Xf1_16 Xf2_16 Xf3_16 Xf4_16 Xf5_16
      replace X := X.later (kh17.mono X.lt)
      replace hS := hS.later kh17
      have kB17 := kB15.trans (kh17.mono kB15.size)
      clear kB15
      have kT17 := kT15.later kh17
      clear kT15
      clear kh17 
      have Xf0_18 := X.c0
      have Xf1_18 := X.c1
      have Xf2_18 := X.c2
      have Xf3_18 := X.c3
      have Xf4_18 := X.c4
      have Xf5_18 := X.c5
      go_wp2
      go_ret
      exact ⟨rfl, kB17⟩
end Re
end Go.Proofs.YtnpbgjafahhadaaDoor
