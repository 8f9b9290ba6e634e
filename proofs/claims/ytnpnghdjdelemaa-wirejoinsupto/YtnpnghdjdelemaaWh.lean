/- A part of the proofs about package wire: what its functions answer, call by call. -/
import Derived.Test.YtnpnghdjdelemaaWg
namespace Go.Proofs.Ytnpnghdjdelemaa
open Go.RowKit
namespace Wi

theorem nine_fin : ∀ b : Fin 256, lenOf b.val = 9 → b.val - hd (lenOf b.val) = 0 := by decide +kernel
theorem nine_zero {b : Nat} (hb : b < 256) : lenOf b = 9 → b - hd (lenOf b) = 0 := nine_fin ⟨b, hb⟩
set_option maxHeartbeats 4000000 in
theorem rfew_any (s : ByteArray) (hs : s.size ≤ 9223372036854775807) (w : World) :
    Calls Try.prog 37 #[.string s] w fun e w' => e = .returned (.tuple #[.int .u64 ((few 12 (bs s)).1 : Nat), .int .i64 ((few 12 (bs s)).2.1 : Nat), .int .i64 (few 12 (bs s)).2.2]) ∧ Below w.heap.size w w' := by
  by_cases h0 : 0 < s.size
  · have hb := isEmpty_no h0
    obtain ⟨r, hbs, hrl, hr, hb0⟩ := bs_cons h0
    have hnp := lenOf_pos (s[0]'h0).toNat
    have hhd := hd_le _ hb0
    have Hbs := hide hbs
    clear hbs
    go_enter Try.func37, Try.ntmps37
    go_wp2
    go_loopw [5] (fun n wr => ∃ k : Nat, 1 ≤ k ∧ k ≤ 9 ∧ k ≤ lenOf (s[0]'h0).toNat ∧ n = .int .i64 k ∧ Below w.heap.size w wr) (fun n _ => 9 - (intOf n).toNat)
    case atStart => exact ⟨1, by omega, by omega, hnp.1, rfl, Below.refl _ _⟩
    case round =>
      obtain ⟨k, hk1, hk9, hkl, rfl, hbr⟩ := hrel
      have hne := later_ne wr
      by_cases hlt : k < 9
      · have hlt' : (k : Int) < 9 := by omega
        have hhk : ∀ w, _ := fun w => same_b (head_any (k + 1) (by omega) (by omega) w)
        have HI := hide (hd_lenOf hb0 hk1 (show k ≤ 8 by omega))
        rw [show ((k + 1 : Nat) : Int) = (k : Int) + 1 by omega] at hhk
        by_cases hge : hd (k + 1) ≤ (s[0]'h0).toNat
        · have HK := hide (HI.out.1 hge)
          clear HI
          generalize hd (k + 1) = Hk at *
          go_wp2
          refine wp_region_later (by kernel_rfl) (by kernel_rfl) ?_
          (repeat (first | go_big_quiet_skip | (go_big_quiet_want; go_big_quiet_op; go_big_quiet_on)))
          (go_big_quiet_want; go_big_quiet_op; apply Exists.intro; refine ⟨fun p => ?_, ?_⟩; (· exact later_of (hhk _)); go_big_quiet_on)
          (repeat (first | go_big_quiet_skip | (go_big_quiet_want; go_big_quiet_op; go_big_quiet_on)))
          refine wpQuiet_nil ?_
          rintro _ ⟨p, rfl⟩
          go_wp2
          go_roundw
          case rel => exact ⟨k + 1, by omega, by omega, HK.out, by go_num, hbr.trans (p.below.mono hbr.size)⟩
          case measure => simp [intOf]; omega
        · have HK : ¬ k + 1 ≤ lenOf (s[0]'h0).toNat := fun h => hge (HI.out.2 h)
          clear HI
          generalize hd (k + 1) = Hk at *
          obtain rfl : k = lenOf (s[0]'h0).toNat := by omega
          clear HK
          have hbs := Hbs.out
          have BB := hbr
          go_wp2
          refine wp_region_later (by kernel_rfl) (by kernel_rfl) ?_
          (repeat (first | go_big_quiet_skip | (go_big_quiet_want; go_big_quiet_op; go_big_quiet_on)))
          (go_big_quiet_want; go_big_quiet_op; apply Exists.intro; refine ⟨fun p => ?_, ?_⟩; (· exact later_of (hhk _)); go_big_quiet_on)
          (repeat (first | go_big_quiet_skip | (go_big_quiet_want; go_big_quiet_op; go_big_quiet_on)))
          refine wpQuiet_nil ?_
          rintro _ ⟨p, rfl⟩
          replace BB := BB.trans (p.below.mono BB.size)
          clear hne hhk hge
          by_cases h1 : r.length + 1 < lenOf (s[0]'h0).toNat
          · have HF := hide (few_short (F := 12) h1)
            rw [← hbs] at HF
            clear hbs
            rw [hrl] at h1
            generalize lenOf (s[0]'h0).toNat = n at *
            go_wp2
            ((try simp only [Exit.inBlock, Exit.then]); refine bodyPost_ret (results_tmp3 rfl _ _ _) rfl ?_)
            exact ⟨by rw [HF.out]; rfl, BB⟩
          · have hje := jo_fv hb0 hr h1
            have hhd2 : ∀ w, _ := fun w => same_b (head_any (lenOf (s[0]'h0).toNat) hnp.1 hnp.2 w)
            obtain ⟨hfs, hfl⟩ := fv_size hb0 hr
            have hsz : ∀ w, _ := fun w => rsize_any (fv (s[0]'h0).toNat r) hfl w
            have h9d : lenOf (s[0]'h0).toNat = 9 → (s[0]'h0).toNat - hd (lenOf (s[0]'h0).toNat) = 0 := nine_zero hb0
            have hrt : ∀ j, 1 ≤ j → (hj : j < s.size) → Hid (r.take j = r.take (j - 1) ++ [(s[j]'hj).toNat]) := fun j h1 hj => drop1_take hbs hj h1
            have HF : Hid (few 12 (bs s) = if size (fv (s[0]'h0).toNat r) = lenOf (s[0]'h0).toNat then (fv (s[0]'h0).toNat r, lenOf (s[0]'h0).toNat, 0) else (0, 0, 12)) := by
              show _ = _
              rw [hbs]
              split
              · rename_i h; exact few_ok h1 h
              · rename_i h; exact few_form h1 h
            have HJ := hide hje
            have hnn := later_ne p.val
            clear hbs hje hfs
            rw [hrl] at h1
            generalize fv (s[0]'h0).toNat r = V at *
            generalize size V = S at *
            have hhdl : hd (lenOf (s[0]'h0).toNat) < 256 := by omega
            generalize hd (lenOf (s[0]'h0).toNat) = H at *
            generalize lenOf (s[0]'h0).toNat = n at *
            have hDl : (s[0]'h0).toNat - H < 18446744073709551616 := by omega
            have h1' : ((n : Int) ≤ (s.size : Int)) := by omega
            have hcast : ((s[0]'h0).toNat : Int) - (H : Int) = (((s[0]'h0).toNat - H : Nat) : Int) := by omega
            generalize hDd : (s[0]'h0).toNat - H = D at *
            clear hDd
            go_wp2
            refine wp_region_later (by kernel_rfl) (by kernel_rfl) ?_
            (repeat (first | go_big_quiet_skip | (go_big_quiet_want; go_big_quiet_op; go_big_quiet_on)))
            (go_big_quiet_want; go_big_quiet_op; apply Exists.intro; refine ⟨fun p => ?_, ?_⟩; (· exact later_of (hhd2 _)); go_big_quiet_on)
            (repeat (first | go_big_quiet_skip | (go_big_quiet_want; go_big_quiet_op; go_big_quiet_on)))
            refine wpQuiet_nil ?_
            rintro _ ⟨p2, rfl⟩
            by_cases hn9 : n = 9
            · have hD0 := h9d hn9
              subst hD0
              subst hn9
              exfalso; omega
            · clear h9d
              go_wp2
              go_loop [6, 7] (fun x i => ∃ j : Nat, 1 ≤ j ∧ j ≤ n ∧ i = .int .i64 j ∧ x = .int .u64 (jo D (r.take (j - 1)) : Nat)) (fun _ i => n - (intOf i).toNat)
              case atStart => exact ⟨1, by omega, by omega, rfl, by rfl⟩
              case round =>
                obtain ⟨j, hj1, hj, rfl, rfl⟩ := hrel
                have HRl := jo_lt hDl (r.take (j - 1)) (fun b hb => hr b (List.mem_of_mem_take hb))
                by_cases hjm : j < n
                · have hjl : j < s.size := by omega
                  have hbl := bs_lt s (s[j]'hjl).toNat (List.mem_of_getElem? (bs_get s j hjl))
                  have HE : Hid (jo D (r.take (j - 1)) * 256 % 18446744073709551616 + (s[j]'hjl).toNat = jo D (r.take j)) := by
                    show _ = _
                    rw [(hrt j hj1 hjl).out, jo_snoc]
                  have HW := hide (jo_step HRl hbl)
                  generalize jo D (r.take (j - 1)) = R at *
                  go_wp2
                  go_round
                  case rel => exact ⟨j + 1, by omega, by omega, by go_num, by rw [show j + 1 - 1 = j by omega, ← HE.out] <;> first | rw [HW.out] | (rw [← HW.out]; go_num) | go_num⟩
                  case measure => simp [intOf]; omega
                · obtain rfl : j = n := by omega
                  have HV := HJ.out
                  by_cases hS : S = j
                  · have HF2 := HF.out
                    rw [if_pos hS] at HF2
                    have HF3 := hide HF2
                    clear HF2 HF
                    subst hS
                    rw [show jo D (r.take (S - 1)) = V from HV]
                    clear HV HJ
                    go_wp2_with fail
                    refine (hsz _).mono ?_
                    rintro e w' ⟨rfl, rfl⟩
                    go_wp2
                    ((try simp only [Exit.inBlock, Exit.then]); refine bodyPost_ret (results_tmp3 rfl _ _ _) rfl ?_)
                    exact ⟨by rw [HF3.out]; rfl, BB.trans (p2.below.mono BB.size)⟩
                  · have HF2 := HF.out
                    rw [if_neg hS] at HF2
                    have HF3 := hide HF2
                    clear HF2 HF
                    have hne2 : ((S : Int) == (j : Int)) = false := by rw [beq_eq_false_iff_ne]; omega
                    rw [show jo D (r.take (j - 1)) = V from HV]
                    clear HV HJ
                    go_wp2_with fail
                    refine (hsz _).mono ?_
                    rintro e w' ⟨rfl, rfl⟩
                    go_wp2
                    ((try simp only [Exit.inBlock, Exit.then]); refine bodyPost_ret (results_tmp3 rfl _ _ _) rfl ?_)
                    exact ⟨by rw [HF3.out]; rfl, BB.trans (p2.below.mono BB.size)⟩
      · obtain rfl : k = lenOf (s[0]'h0).toNat := by omega
        have hbs := Hbs.out
        have BB := hbr
        have hg9 : decide ((lenOf (s[0]'h0).toNat : Int) < 9) = false := decide_eq_false (by omega)
        go_wp2
        refine wp_region_later (by kernel_rfl) (by kernel_rfl) ?_
        (repeat (first | go_big_quiet_skip | (go_big_quiet_want; go_big_quiet_op; go_big_quiet_on)))
        refine wpQuiet_nil ?_
        rintro _ ⟨p, rfl⟩
        replace BB := BB.trans (p.below.mono BB.size)
        clear hne hg9
        by_cases h1 : r.length + 1 < lenOf (s[0]'h0).toNat
        · have HF := hide (few_short (F := 12) h1)
          rw [← hbs] at HF
          clear hbs
          rw [hrl] at h1
          generalize lenOf (s[0]'h0).toNat = n at *
          go_wp2
          ((try simp only [Exit.inBlock, Exit.then]); refine bodyPost_ret (results_tmp3 rfl _ _ _) rfl ?_)
          exact ⟨by rw [HF.out]; rfl, BB⟩
        · have hje := jo_fv hb0 hr h1
          have hhd2 : ∀ w, _ := fun w => same_b (head_any (lenOf (s[0]'h0).toNat) hnp.1 hnp.2 w)
          obtain ⟨hfs, hfl⟩ := fv_size hb0 hr
          have hsz : ∀ w, _ := fun w => rsize_any (fv (s[0]'h0).toNat r) hfl w
          have h9d : lenOf (s[0]'h0).toNat = 9 → (s[0]'h0).toNat - hd (lenOf (s[0]'h0).toNat) = 0 := nine_zero hb0
          have hrt : ∀ j, 1 ≤ j → (hj : j < s.size) → Hid (r.take j = r.take (j - 1) ++ [(s[j]'hj).toNat]) := fun j h1 hj => drop1_take hbs hj h1
          have HF : Hid (few 12 (bs s) = if size (fv (s[0]'h0).toNat r) = lenOf (s[0]'h0).toNat then (fv (s[0]'h0).toNat r, lenOf (s[0]'h0).toNat, 0) else (0, 0, 12)) := by
            show _ = _
            rw [hbs]
            split
            · rename_i h; exact few_ok h1 h
            · rename_i h; exact few_form h1 h
          have HJ := hide hje
          have hnn := later_ne p.val
          clear hbs hje hfs
          rw [hrl] at h1
          generalize fv (s[0]'h0).toNat r = V at *
          generalize size V = S at *
          have hhdl : hd (lenOf (s[0]'h0).toNat) < 256 := by omega
          generalize hd (lenOf (s[0]'h0).toNat) = H at *
          generalize lenOf (s[0]'h0).toNat = n at *
          have hDl : (s[0]'h0).toNat - H < 18446744073709551616 := by omega
          have h1' : ((n : Int) ≤ (s.size : Int)) := by omega
          have hcast : ((s[0]'h0).toNat : Int) - (H : Int) = (((s[0]'h0).toNat - H : Nat) : Int) := by omega
          generalize hDd : (s[0]'h0).toNat - H = D at *
          clear hDd
          go_wp2
          refine wp_region_later (by kernel_rfl) (by kernel_rfl) ?_
          (repeat (first | go_big_quiet_skip | (go_big_quiet_want; go_big_quiet_op; go_big_quiet_on)))
          (go_big_quiet_want; go_big_quiet_op; apply Exists.intro; refine ⟨fun p => ?_, ?_⟩; (· exact later_of (hhd2 _)); go_big_quiet_on)
          (repeat (first | go_big_quiet_skip | (go_big_quiet_want; go_big_quiet_op; go_big_quiet_on)))
          refine wpQuiet_nil ?_
          rintro _ ⟨p2, rfl⟩
          by_cases hn9 : n = 9
          · have hD0 := h9d hn9
            subst hD0
            subst hn9
            go_wp2
            go_loop [6, 7] (fun x i => ∃ j : Nat, 1 ≤ j ∧ j ≤ 9 ∧ i = .int .i64 j ∧ x = .int .u64 (jo 0 (r.take (j - 1)) : Nat)) (fun _ i => 9 - (intOf i).toNat)
            case atStart => exact ⟨1, by omega, by omega, rfl, by rfl⟩
            case round =>
              obtain ⟨j, hj1, hj, rfl, rfl⟩ := hrel
              have HRl := jo_lt hDl (r.take (j - 1)) (fun b hb => hr b (List.mem_of_mem_take hb))
              by_cases hjm : j < 9
              · have hjl : j < s.size := by omega
                have hbl := bs_lt s (s[j]'hjl).toNat (List.mem_of_getElem? (bs_get s j hjl))
                have HE : Hid (jo 0 (r.take (j - 1)) * 256 % 18446744073709551616 + (s[j]'hjl).toNat = jo 0 (r.take j)) := by
                  show _ = _
                  rw [(hrt j hj1 hjl).out, jo_snoc]
                have HW := hide (jo_step HRl hbl)
                generalize jo 0 (r.take (j - 1)) = R at *
                go_wp2
                go_round
                case rel => exact ⟨j + 1, by omega, by omega, by go_num, by rw [show j + 1 - 1 = j by omega, ← HE.out] <;> first | rw [HW.out] | (rw [← HW.out]; go_num) | go_num⟩
                case measure => simp [intOf]; omega
              · obtain rfl : j = 9 := by omega
                have HV := HJ.out
                by_cases hS : S = 9
                · have HF2 := HF.out
                  rw [if_pos hS] at HF2
                  have HF3 := hide HF2
                  clear HF2 HF
                  subst hS
                  rw [show jo 0 (r.take (9 - 1)) = V from HV]
                  clear HV HJ
                  go_wp2_with fail
                  refine (hsz _).mono ?_
                  rintro e w' ⟨rfl, rfl⟩
                  go_wp2
                  ((try simp only [Exit.inBlock, Exit.then]); refine bodyPost_ret (results_tmp3 rfl _ _ _) rfl ?_)
                  exact ⟨by rw [HF3.out]; rfl, BB.trans (p2.below.mono BB.size)⟩
                · have HF2 := HF.out
                  rw [if_neg hS] at HF2
                  have HF3 := hide HF2
                  clear HF2 HF
                  have hne2 : ((S : Int) == (9 : Int)) = false := by rw [beq_eq_false_iff_ne]; omega
                  rw [show jo 0 (r.take (9 - 1)) = V from HV]
                  clear HV HJ
                  go_wp2_with fail
                  refine (hsz _).mono ?_
                  rintro e w' ⟨rfl, rfl⟩
                  go_wp2
                  ((try simp only [Exit.inBlock, Exit.then]); refine bodyPost_ret (results_tmp3 rfl _ _ _) rfl ?_)
                  exact ⟨by rw [HF3.out]; rfl, BB.trans (p2.below.mono BB.size)⟩
          · clear h9d
            exfalso; omega
  · obtain rfl := empty_of (show s.size = 0 by omega)
    go_enter Try.func37, Try.ntmps37
    go_wp2
    ((try simp only [Exit.inBlock, Exit.then]); refine bodyPost_ret (results_tmp3 rfl _ _ _) rfl ?_)
    exact ⟨rfl, Below.refl _ _⟩

end Wi
end Go.Proofs.Ytnpnghdjdelemaa
