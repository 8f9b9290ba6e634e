/- The document's answer: a head whose data's check sum is given. -/
import Derived.Test.YtnpbgjafahhadaaDoorTb
import Derived.Test.YtnpbgjafahhadaaDoorTc
namespace Go.Proofs.YtnpbgjafahhadaaDoor
open Go.RowKit
namespace Re
open Cr
set_option maxRecDepth 20000 in
set_option maxHeartbeats 4000000 in
theorem rhof_any (ep nu : Int) (a : Option Addr) (n cap : Nat) (xs : List (Int × Int)) (da tx z : ByteArray) (W : World) (T : Tab W) (hS : Sl W a n xs) (hz4 : z.size = 4) (h0 : hB ⟨ep, nu, 1, xs, da, tx⟩ = 0) :
    Calls Tryd.prog 38 #[.agg #[.int .i64 ep, .int .i64 nu, .int .i64 1, .slice a n cap, .string da, .string tx], .string z] W fun e w' => e = .returned (.string (str (hdB (body ⟨ep, nu, 1, xs, da, tx⟩ (num (bs z)))))) ∧ Below W.heap.size W w' := by
  have hU := hdU_lt h0 (num (bs z))
  have hl := body_length h0 (num (bs z))
  have hbz := hide (four_bytes (by rw [bs_length]; exact hz4) (bs_lt z)).1
  have hbd : body ⟨ep, nu, 1, xs, da, tx⟩ (num (bs z)) = vr ep.toNat ++ (vr nu.toNat ++ (vr (1 : Int).toNat ++ kd ⟨ep, nu, 1, xs, da, tx⟩ (num (bs z)))) := rfl
  rw [kd_bs] at hbd
  obtain ⟨h1, h2, h3, h4, h5⟩ := hB_ok h0
  simp only at h1 h2 h3 h4 h5 hbd
  clear h0
  obtain ⟨B, hBB⟩ : ∃ B, Hid (body ⟨ep, nu, 1, xs, da, tx⟩ (num (bs z)) = B) := ⟨_, rfl⟩
  rw [hBB.out] at hU hl hbd ⊢
  obtain ⟨e, rfl⟩ := Int.eq_ofNat_of_zero_le h1
  obtain ⟨u, rfl⟩ := Int.eq_ofNat_of_zero_le h3
  rw [show (e : Int).toNat = e from rfl, show (u : Int).toNat = u from rfl] at hbd
  replace hbd := hide hbd
  replace hU := hide hU
  have hLn := hide hS.len
  have hk : 1 ≤ xs.length ∧ xs.length ≤ 64 ∧ allB xs = true := by
    rcases h5 with h5 | h5 | h5
    · exact ⟨h5.2.2.1, h5.2.2.2.1, h5.2.2.2.2.1⟩
    · omega
    · omega
  obtain ⟨n1, n2, al⟩ := hk
  have hn64 : n ≤ 64 := by have := hLn.out; omega
  clear h5
  have hze : ∀ s : ByteArray, s ++ ⟨#[]⟩ = s := fun s => ByteArray.append_empty
  have hv1 : ∀ w : World, _ := fun w => rvar_any e (by omega) w
  have hv2 : ∀ w : World, _ := fun w => rvar_any u (by omega) w
  have hv3 : ∀ w : World, Calls Tryd.prog 31 #[.int .u64 1] w _ := fun w => rvar_any 1 (by omega) w
  have hv4 : ∀ w : World, _ := fun w => rvar_any n (by omega) w
  have sSe := vr_sz e
  obtain ⟨Se, hSe⟩ : ∃ Se, Hid (str (vr e) = Se) := ⟨_, rfl⟩
  rw [hSe.out] at hv1 sSe
  have sSu := vr_sz u
  obtain ⟨Su, hSu⟩ : ∃ Su, Hid (str (vr u) = Su) := ⟨_, rfl⟩
  rw [hSu.out] at hv2 sSu
  have sSk := vr_sz 1
  obtain ⟨Sk, hSk⟩ : ∃ Sk, Hid (str (vr 1) = Sk) := ⟨_, rfl⟩
  rw [hSk.out] at hv3 sSk
  have sSn := vr_sz n
  obtain ⟨Sn, hSn⟩ : ∃ Sn, Hid (str (vr n) = Sn) := ⟨_, rfl⟩
  rw [hSn.out] at hv4 sSn
  obtain ⟨A2, hA2⟩ : ∃ A2, Se ++ Su ++ Sk ++ Sn = A2 := ⟨_, rfl⟩
  have hA2z : A2.size ≤ 36 := by rw [← hA2, ByteArray.size_append, ByteArray.size_append, ByteArray.size_append]; omega
  go_enter Tryd.func38, Tryd.ntmps38
  have kh1 := below_alloc W (.cells #[.int .i64 ((e : Nat) : Int), .int .i64 ((u : Nat) : Int), .int .i64 1, .slice a n cap, .string da, .string tx] 29)
  replace hS := hS.later kh1
  have kB1 := kh1
  have kT1 := T.later kh1
  have X := boxR W (((e : Nat) : Int)) (((u : Nat) : Int)) (1) (.slice a n cap) (da) (tx) 29
  generalize kW1 : W.alloc (.cells #[.int .i64 ((e : Nat) : Int), .int .i64 ((u : Nat) : Int), .int .i64 1, .slice a n cap, .string da, .string tx] 29) = kw1 at *
  clear kh1
  have Xf0_2 := X.c0
  have Xf1_2 := X.c1
  have Xf2_2 := X.c2
  have Xf3_2 := X.c3
  have Xf4_2 := X.c4
  have Xf5_2 := X.c5
  clear Xf0_2 Xf1_2 Xf2_2 Xf3_2 Xf4_2 Xf5_2
  have Xq0 : ∀ p : Later kw1, p.val.cell? ⟨W.heap.size, 0, none⟩ = some (.int .i64 ((e : Nat) : Int)) := fun p => (X.later (p.below.mono X.lt)).c0
  have Xq1 : ∀ p : Later kw1, p.val.cell? ⟨W.heap.size, 1, none⟩ = some (.int .i64 ((u : Nat) : Int)) := fun p => (X.later (p.below.mono X.lt)).c1
  have Xq2 : ∀ p : Later kw1, p.val.cell? ⟨W.heap.size, 2, none⟩ = some (.int .i64 1) := fun p => (X.later (p.below.mono X.lt)).c2
  have Xq3 : ∀ p : Later kw1, p.val.cell? ⟨W.heap.size, 3, none⟩ = some (.slice a n cap) := fun p => (X.later (p.below.mono X.lt)).c3
  have Xq4 : ∀ p : Later kw1, p.val.cell? ⟨W.heap.size, 4, none⟩ = some (.string da) := fun p => (X.later (p.below.mono X.lt)).c4
  have Xq5 : ∀ p : Later kw1, p.val.cell? ⟨W.heap.size, 5, none⟩ = some (.string tx) := fun p => (X.later (p.below.mono X.lt)).c5
  have hne3 := later_ne kw1
  go_wp2
  clear kW1
  refine wp_region_later (by kernel_rfl) (by kernel_rfl) ?_
  (repeat (first | go_big_quiet_skip | (go_big_quiet_want; go_big_quiet_op; go_big_quiet_on)))
  (go_big_quiet_want; go_big_quiet_op; apply Exists.intro; refine ⟨fun p => ?_, ?_⟩; (· exact later_of (hv1 p.val)); go_big_quiet_on)
  (repeat (first | go_big_quiet_skip | (go_big_quiet_want; go_big_quiet_op; go_big_quiet_on)))
  (go_big_quiet_want; go_big_quiet_op; apply Exists.intro; refine ⟨fun p => ?_, ?_⟩; (· exact later_of (hv2 p.val)); go_big_quiet_on)
  (repeat (first | go_big_quiet_skip | (go_big_quiet_want; go_big_quiet_op; go_big_quiet_on)))
  (go_big_quiet_want; go_big_quiet_op; apply Exists.intro; refine ⟨fun p => ?_, ?_⟩; (· exact later_of (hv3 p.val)); go_big_quiet_on)
  (repeat (first | go_big_quiet_skip | (go_big_quiet_want; go_big_quiet_op; go_big_quiet_on)))
  (go_big_quiet_want; go_big_quiet_op; apply Exists.intro; refine ⟨fun p => ?_, ?_⟩; (· exact later_of (hv4 p.val)); go_big_quiet_on)
  (repeat (first | go_big_quiet_skip | (go_big_quiet_want; go_big_quiet_op; go_big_quiet_on)))
  refine wpQuiet_nil ?_
  rintro _ ⟨p3, rfl⟩
  have kh3 := p3.below
  clear Xq0 Xq1 Xq2 Xq3 Xq4 Xq5 hne3
  replace X := X.later (kh3.mono X.lt)
  replace hS := hS.later kh3
  have kB3 := kB1.trans (kh3.mono kB1.size)
  clear kB1
  have kT3 := kT1.later kh3
  clear kT1
  generalize p3.val = kw3 at *
  clear kh3
  have Xf0_4 := X.c0
  have Xf1_4 := X.c1
  have Xf2_4 := X.c2
  have Xf3_4 := X.c3
  have Xf4_4 := X.c4
  have Xf5_4 := X.c5
  clear hv1 hv2 hv3 hv4
  clear Xf0_4 Xf1_4 Xf2_4 Xf3_4 Xf4_4 Xf5_4
  go_wp2
  go_loopw [5, 6] (fun s i wr => ∃ (j : Nat) (A5 : ByteArray), j ≤ n ∧ i = .int .i64 j ∧ s = .string A5 ∧ Hid (A5 = A2 ++ str (spB (xs.take j))) ∧ Below kw3.heap.size kw3 wr) (fun _ i _ => n - (intOf i).toNat)
  case atStart => exact ⟨0, A2, Nat.zero_le _, rfl, rfl, by show _ = _; rw [List.take_zero, show spB [] = [] from rfl, show str [] = ⟨#[]⟩ from rfl, hze], Below.refl _ _⟩
  case round =>
    obtain ⟨j, A5, hj, rfl, rfl, hA5, hbr⟩ := hrel
    have X5 := X.later (hbr.mono X.lt)
    have hS5 := hS.later hbr
    have B5 := kB3.trans (hbr.mono kB3.size)
    have x3 := X5.c3
    by_cases hlt : j < n
    · have hjx : j < xs.length := by rw [← hLn.out]; exact hlt
      obtain ⟨b, off, hab, hbl, c0, c1⟩ := hS5.cells j hjx
      subst hab
      have hm := mayB_iff.1 (allB_at al (k := j) hjx)
      have HP := hide (spB_snoc (xs := xs) (k := j) hjx)
      generalize nth xs j = x at *
      obtain ⟨x1, x2⟩ := x
      simp only at hm c0 c1 HP
      obtain ⟨p1, rfl⟩ := Int.eq_ofNat_of_zero_le (show 0 ≤ x1 by omega)
      obtain ⟨p2, rfl⟩ := Int.eq_ofNat_of_zero_le (show 0 ≤ x2 by omega)
      have hv5 : ∀ w : World, _ := fun w => rvar_any p1 (by omega) w
      have hv6 : ∀ w : World, _ := fun w => rvar_any p2 (by omega) w
      have y3 : ∀ p : Later wr, p.val.cell? ⟨W.heap.size, 3, none⟩ = some (.slice (some ⟨b, off, none⟩) n cap) := fun p => (X5.later (p.below.mono X5.lt)).c3
      have y0 : ∀ p : Later wr, p.val.cell? ⟨b, off + j * 2, none⟩ = some (.int .i64 ((p1 : Nat) : Int)) := fun p => lcell hbl c0 p
      have y1 : ∀ p : Later wr, p.val.cell? ⟨b, off + j * 2 + 1, none⟩ = some (.int .i64 ((p2 : Nat) : Int)) := fun p => lcell hbl c1 p
      have hne := later_ne wr
      have s51 := vr_sz p1
      have s61 := vr_sz p2
      have s5A : A5.size ≤ 2000 := by
        have := spB_length (xs.take j)
        rw [hA5.out, ByteArray.size_append, str_size]
        rw [List.length_take] at this
        omega
      obtain ⟨V1, hV1⟩ : ∃ V1, Hid (str (vr p1) = V1) := ⟨_, rfl⟩
      obtain ⟨V2, hV2⟩ : ∃ V2, Hid (str (vr p2) = V2) := ⟨_, rfl⟩
      rw [hV1.out] at hv5 s51
      rw [hV2.out] at hv6 s61
      clear hS5 X5 hS X c0 c1
      go_wp2
      refine wp_region_later (by kernel_rfl) (by kernel_rfl) ?_
      (repeat (first | go_big_quiet_skip | (go_big_quiet_want; go_big_quiet_op; go_big_quiet_on)))
      (go_big_quiet_want; go_big_quiet_op; apply Exists.intro; refine ⟨fun p => ?_, ?_⟩; (· exact later_of (hv5 p.val)); go_big_quiet_on)
      (repeat (first | go_big_quiet_skip | (go_big_quiet_want; go_big_quiet_op; go_big_quiet_on)))
      (go_big_quiet_want; go_big_quiet_op; apply Exists.intro; refine ⟨fun p => ?_, ?_⟩; (· exact later_of (hv6 p.val)); go_big_quiet_on)
      (repeat (first | go_big_quiet_skip | (go_big_quiet_want; go_big_quiet_op; go_big_quiet_on)))
      refine wpQuiet_nil ?_
      rintro _ ⟨p, rfl⟩
      have B6 := hbr.trans (p.below.mono hbr.size)
      generalize p.val = w9 at *
      clear y0 y1 y3 hne hv5 hv6 B5 hbr x3
      go_wp2
      go_roundw
      case rel => exact ⟨j + 1, _, by omega, by go_num, rfl, by show _ = _; rw [HP.out, str_append, str_append, hA5.out, ← hV1.out, ← hV2.out, show (((p1 : Nat) : Int)).toNat = p1 from rfl, show (((p2 : Nat) : Int)).toNat = p2 from rfl]; simp only [ByteArray.append_assoc], B6⟩
      case measure => simp [intOf]; omega
    · obtain rfl : j = n := by omega
      rw [show xs.take j = xs by rw [hLn.out, List.take_length]] at hA5
      have sAz : A5.size ≤ 2000 := by
        have := spB_length xs
        have := hLn.out
        rw [hA5.out, ByteArray.size_append, str_size]
        omega
      have T5 := kT3.later (by exact hbr)
      clear hS X hbr kB3 kT3
      have X5f0_101 := X5.c0
      have X5f1_101 := X5.c1
      have X5f2_101 := X5.c2
      have X5f3_101 := X5.c3
      have X5f4_101 := X5.c4
      have X5f5_101 := X5.c5
      obtain ⟨S, hS0⟩ : ∃ S, A5 ++ z = S := ⟨_, rfl⟩
      have HS : Hid (bs S = B) := by
        show _ = _
        rw [← hS0, hA5.out, ← hA2, ← hSe.out, ← hSu.out, ← hSk.out, ← hSn.out, bs_append, bs_append, bs_append, bs_append, bs_append, bs_str (vr_lt _ (by omega)), bs_str (vr_lt _ (by omega)), bs_str (vr_lt _ (by omega)), bs_str (vr_lt _ (by omega)), bs_str (spB_lt al), hbd.out, if_neg (by decide), if_pos (by trivial), hbz.out, hLn.out]
        simp only [List.append_assoc]; rfl
      have hSl : S.size = B.length := by rw [← bs_length, HS.out]
      have hm1 := hn_le B.length
      have hmq : hn B.length = (S.size + 71) / 64 := by unfold hn; rw [hSl]
      obtain ⟨m, hm⟩ : ∃ m, Hid (hn B.length = m) := ⟨_, rfl⟩
      rw [hm.out] at hm1 hmq
      have hm2 : m ≤ 20 := by omega
      have hSb : S.size ≤ 1197 := by omega
      have hdv : (4 + (S.size : Int) + 4 + 63) / 64 = (m : Int) := by omega
      have hdv2 : Int.tdiv (4 + (S.size : Int) + 4 + 63) 64 = (m : Int) := by rw [Int.tdiv_eq_ediv_of_nonneg (by omega)]; exact hdv
      obtain ⟨N, hN⟩ : ∃ N : Nat, Hid (64 * m = 8 + S.size + N) := ⟨64 * m - 8 - S.size, by show _ = _; omega⟩
      replace hSl := hide hSl
      replace hm1 := hide hm1
      replace hmq := hide hmq
      have hfx : ∀ w : World, _ := fun w => rfixed_any m 2 (by omega) (by omega) w
      have hb2 : (str (be m 2)).size = 2 := by rw [str_size, be_length]
      obtain ⟨F, hF⟩ : ∃ F, Hid (str (be m 2) = F) := ⟨_, rfl⟩
      rw [hF.out] at hb2 hfx
      go_wp2_with fail
      refine (hfx _).mono ?_
      rintro e vw102 ⟨rfl, vh102⟩
      clear X5f0_101 X5f1_101 X5f2_101 X5f3_101 X5f4_101 X5f5_101
      replace X5 := X5.later (vh102.mono X5.lt)
      replace hS5 := hS5.later vh102
      have vB102 := B5.trans (vh102.mono B5.size)
      clear B5
      have vT102 := T5.later vh102
      clear T5
      clear vh102 hfx
      have X5f0_103 := X5.c0
      have X5f1_103 := X5.c1
      have X5f2_103 := X5.c2
      have X5f3_103 := X5.c3
      have X5f4_103 := X5.c4
      have X5f5_103 := X5.c5
      have hL : (⟨#[76, 82]⟩ : ByteArray).size = 2 := rfl
      obtain ⟨S2, hS2⟩ : ∃ S2, (⟨#[76, 82]⟩ : ByteArray) ++ F ++ S = S2 := ⟨_, rfl⟩
      have hz2 : S2.size = 4 + S.size := by simp only [← hS2, ByteArray.size_append]; omega
      have hNI : (64 : Int) * (m : Int) - 4 - (S2.size : Int) = (N : Int) := by have := hN.out; omega
      have hS2z : S2.size ≤ 1300 := by omega
      have hNz : N ≤ 64 * 20 := by have := hN.out; omega
      replace hz2 := hide hz2
      obtain ⟨Z, hZ⟩ : ∃ Z, Hid (str (List.replicate N 0) = Z) := ⟨_, rfl⟩
      have hZz : Z.size = N := by rw [← hZ.out, str_size, List.length_replicate]
      have hmk : (Instr.makeSlice 52 (.int .i64 (N : Int)) (.int .i64 (N : Int))).run Tryd.prog vw102 = .ok (.slice (some ⟨vw102.heap.size, 0, none⟩) N N) (vw102.alloc (.cells (zs N) 5)) := make_bytes (by have := hN.out; omega) _
      have hcv : (convert 52 9 (.slice (some ⟨vw102.heap.size, 0, none⟩) N N)).run Tryd.prog (vw102.alloc (.cells (zs N) 5)) = .ok (.string Z) (vw102.alloc (.cells (zs N) 5)) := by rw [← hZ.out]; exact conv_rep (fun i hi => by simp [zs_get hi])
      have vh104 := below_alloc vw102 (.cells (zs N) 5)
      replace X5 := X5.later (vh104.mono X5.lt)
      replace hS5 := hS5.later vh104
      have vB104 := vB102.trans (vh104.mono vB102.size)
      clear vB102
      have vT104 := vT102.later vh104
      clear vT102
      generalize vW104 : vw102.alloc (.cells (zs N) 5) = vw104 at *
      clear vh104
      obtain ⟨S3, hS3⟩ : ∃ S3, S2 ++ Z = S3 := ⟨_, rfl⟩
      have hz3 : S3.size = S2.size + N := by rw [← hS3, ByteArray.size_append, hZz]
      have hU3 : Hid (S3 = str (hdU B)) := by
        show S3 = str (hdU B)
        rw [← hS3, ← hS2, ← hF.out, ← hZ.out, hdU, str_append, str_append, str_append, hm.out, ← HS.out, str_bs, show 64 * m - (8 + (bs S).length) = N by have := hN.out; have := bs_length S; have := hSl.out; omega, show (⟨#[76, 82]⟩ : ByteArray) = str [76, 82] from rfl, ByteArray.append_assoc, ByteArray.append_assoc]
      have hmo : ∀ w : World, _ := fun w => rmore0 S3 (by have := hN.out; have := hz2.out; omega) w
      have hM := more_lt' (bs S3)
      have hfo : ∀ w : World, _ := fun w => rfour_any (more 0 (bs S3)) hM w
      have hend : Hid (S3 ++ str (four (more 0 (bs S3))) = str (hdB B)) := by
        show _ = _
        rw [hdB, str_append, hU3.out, bs_str hU.out]
      generalize more 0 (bs S3) = M3 at *
      replace hN := hide hN
      obtain ⟨F4, hF4⟩ : ∃ F4, Hid (str (four M3) = F4) := ⟨_, rfl⟩
      have hF4z : F4.size = 4 := by rw [← hF4.out, str_size, four_length]
      have hS3z : S3.size ≤ 3000 := by have := hN.out.out; have := hz2.out; omega
      rw [hF4.out] at hfo hend
      clear hM hz3
      go_wp2_with fail
      refine (hmo _).mono ?_
      rintro e vw105 ⟨rfl, vh105⟩
      clear X5f0_103 X5f1_103 X5f2_103 X5f3_103 X5f4_103 X5f5_103
      replace X5 := X5.later (vh105.mono X5.lt)
      replace hS5 := hS5.later vh105
      have vB105 := vB104.trans (vh105.mono vB104.size)
      clear vB104
      have vT105 := vT104.later vh105
      clear vT104
      clear vh105 hmo hmk hcv
      have X5f0_106 := X5.c0
      have X5f1_106 := X5.c1
      have X5f2_106 := X5.c2
      have X5f3_106 := X5.c3
      have X5f4_106 := X5.c4
      have X5f5_106 := X5.c5
      go_wp2_with fail
      refine (hfo _).mono ?_
      rintro e vw107 ⟨rfl, vh107⟩
      clear X5f0_106 X5f1_106 X5f2_106 X5f3_106 X5f4_106 X5f5_106
      replace X5 := X5.later (vh107.mono X5.lt)
      replace hS5 := hS5.later vh107
      have vB107 := vB105.trans (vh107.mono vB105.size)
      clear vB105
      have vT107 := vT105.later vh107
      clear vT105
      clear vh107 hfo
      have X5f0_108 := X5.c0
      have X5f1_108 := X5.c1
      have X5f2_108 := X5.c2
      have X5f3_108 := X5.c3
      have X5f4_108 := X5.c4
      have X5f5_108 := X5.c5
      go_wp2
      go_ret
      exact ⟨ret_str hend.out, vB107⟩
end Re
end Go.Proofs.YtnpbgjafahhadaaDoor
