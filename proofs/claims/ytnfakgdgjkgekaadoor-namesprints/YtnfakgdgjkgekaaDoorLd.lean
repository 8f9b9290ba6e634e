/- The law NamesPrints: what the text of a name is, and what texts of its volume and kind begin with. -/
import Derived.Test.YtnfakgdgjkgekaaDoorRc
import Derived.Test.YtnfakgdgjkgekaaDoorLw
namespace Go.Proofs.YtnfakgdgjkgekaaDoor
open Go.RowKit
namespace Wi

set_option maxHeartbeats 8000000 in
theorem namesPrints_walk (o : NmV) (W : World) (T : Tz W) (ho : NmOk o) : Calls Tryd.prog 3 #[.agg o.cells.toArray] W fun e w' => e = .returned (.bool true) ∧ Below W.heap.size W w' := by
  obtain ⟨v, z, q⟩ := o
  obtain ⟨hv, hz, hq⟩ := ho
  simp only at hv hz hq
  unfold NmV.cells
  simp only
  have hb0 := below_alloc W (.cells #[.string v, .int .i64 z, .int .i64 q] 23)
  have hN0 := heap_alloc_new W (.cells #[.string v, .int .i64 z, .int .i64 q] 23)
  by_cases h1 : 100 < v.size
  · have HB := hide hb0
    clear hb0 hN0
    go_enter Tryd.func3, Tryd.ntmps3
    go_wp2_with fail
    refine (awake_any _ (T.later HB.out)).mono ?_
    rintro e w9 ⟨rfl, hb9⟩
    go_wp2
    go_ret
    exact ⟨rfl, HB.out.trans (hb9.mono HB.out.size)⟩
  · have hpr := print_any v hv z q hz hq (W.alloc (.cells #[.string v, .int .i64 z, .int .i64 q] 23)) (T.later hb0)
    obtain ⟨w0, hw0⟩ : ∃ w0, w0 = W.alloc (.cells #[.string v, .int .i64 z, .int .i64 q] 23) := ⟨_, rfl⟩
    rw [← hw0] at hb0 hN0 hpr
    have HW0 := hide hw0
    have H00 := hide hb0
    have lR : W.heap.size < w0.heap.size := lt_of_block hN0
    have HCE : Hid (∀ w', Below w0.heap.size w0 w' → w'.cell? ⟨W.heap.size, 0, none⟩ = some (.string v) ∧ w'.cell? ⟨W.heap.size, 1, none⟩ = some (.int .i64 z) ∧ w'.cell? ⟨W.heap.size, 2, none⟩ = some (.int .i64 q)) := fun w' hb => by
      have hblk := (hb.block _ lR).trans hN0
      exact ⟨by rw [cell_of_row _ _ _ _ _ _ hblk]; rfl, by rw [cell_of_row _ _ _ _ _ _ hblk]; rfl, by rw [cell_of_row _ _ _ _ _ _ hblk]; rfl⟩
    have HRP := hide fun w => rprint_any v hv z q hz hq w
    have HPF := hide fun w => prefix_any v hv z hz w
    have HRF := hide fun w => rprefix_any v hv z hz w
    have HVO := hide fun w => volume_any v hv w
    have HRV := hide fun w => refvol_any v hv w
    have v1 : ((prnS v z q).toList == (prnS v z q).toList) = true := beq_lists rfl
    have v2 : ((preS v z).toList == (preS v z).toList) = true := beq_lists rfl
    have v3 : (prnE v z q == prnE v z q) = true := beq_self_eq_true _
    have v4 : (preE v z == preE v z) = true := beq_self_eq_true _
    have HVE : Hid (volE v = if volB v then 0 else 1) := rfl
    clear hw0 hb0 hN0 hz hq
    generalize prnS v z q = S at *
    generalize prnE v z q = E at *
    generalize preS v z = PS at *
    generalize preE v z = PE at *
    generalize volE v = VE at *
    cases hb : volB v with
    | true =>
      rw [hb] at HVE HRV
      simp only [if_true] at HVE
      rw [HVE.out] at HVO
      clear hb HVE
      go_enter Tryd.func3, Tryd.ntmps3
      go_wp2_with fail
      rw [← HW0.out]
      refine hpr.mono ?_
      rintro e w1 ⟨rfl, hb1⟩
      obtain ⟨a0, a1, a2⟩ := HCE.out w1 hb1
      have HB1 := hide hb1
      have hrp := HRP.out w1
      clear hpr hb1 HRP
      go_wp2_with fail
      refine hrp.mono ?_
      rintro e w2 ⟨rfl, hb2⟩
      have HB2 := hide (HB1.out.trans (hb2.mono HB1.out.size))
      clear hrp hb2 HB1 a0 a1 a2
      obtain ⟨a0, a1, a2⟩ := HCE.out w2 HB2.out
      have hpf := HPF.out w2
      clear HPF
      go_wp2_with fail
      refine hpf.mono ?_
      rintro e w3 ⟨rfl, hb3⟩
      have HB3 := hide (HB2.out.trans (hb3.mono HB2.out.size))
      clear hpf hb3 HB2 a0 a1 a2
      obtain ⟨a0, a1, a2⟩ := HCE.out w3 HB3.out
      have hrf := HRF.out w3
      clear HRF
      go_wp2_with fail
      refine hrf.mono ?_
      rintro e w4 ⟨rfl, hww⟩
      subst hww
      clear hrf a0 a1 a2
      have k0 : ∀ p : Later w4, p.val.cell? ⟨W.heap.size, 0, none⟩ = some (.string v) := fun p => (HCE.out _ (HB3.out.trans (p.below.mono HB3.out.size))).1
      have s1 : ∀ p : Later w4, _ := fun p => HVO.out p.val
      have s2 : ∀ p : Later w4, _ := fun p => HRV.out p.val
      have s3 : ∀ p : Later w4, _ := fun p => awake_any p.val (T.later (H00.out.trans ((HB3.out.trans (p.below.mono HB3.out.size)).mono H00.out.size)))
      have hne := later_ne w4
      clear HVO HRV
      go_wp2
      refine wp_region_later (by kernel_rfl) (by kernel_rfl) ?_
      (repeat (first | go_big_quiet_skip | (go_big_quiet_want; go_big_quiet_op; go_big_quiet_on)))
      (go_big_quiet_want; go_big_quiet_op; apply Exists.intro; refine ⟨fun p => ?_, ?_⟩; (· exact later_of (same_b (s1 p))); go_big_quiet_on)
      (repeat (first | go_big_quiet_skip | (go_big_quiet_want; go_big_quiet_op; go_big_quiet_on)))
      (go_big_quiet_want; go_big_quiet_op; apply Exists.intro; refine ⟨fun p => ?_, ?_⟩; (· exact later_of (same_b (s2 p))); go_big_quiet_on)
      (repeat (first | go_big_quiet_skip | (go_big_quiet_want; go_big_quiet_op; go_big_quiet_on)))
      (go_big_quiet_want; go_big_quiet_op; apply Exists.intro; refine ⟨fun p => ?_, ?_⟩; (· exact later_of (s3 p)); go_big_quiet_on)
      (repeat (first | go_big_quiet_skip | (go_big_quiet_want; go_big_quiet_op; go_big_quiet_on)))
      refine wpQuiet_nil ?_
      rintro _ ⟨p, rfl⟩
      have HB := hide (H00.out.trans ((HB3.out.trans (p.below.mono HB3.out.size)).mono H00.out.size))
      clear k0 s1 s2 s3 hne
      generalize p.val = w5 at *
      go_wp2
      go_ret
      exact ⟨rfl, HB.out⟩
    | false =>
      rw [hb] at HVE HRV
      simp only [Bool.false_eq_true, if_false] at HVE
      rw [HVE.out] at HVO
      clear hb HVE
      go_enter Tryd.func3, Tryd.ntmps3
      go_wp2_with fail
      rw [← HW0.out]
      refine hpr.mono ?_
      rintro e w1 ⟨rfl, hb1⟩
      obtain ⟨a0, a1, a2⟩ := HCE.out w1 hb1
      have HB1 := hide hb1
      have hrp := HRP.out w1
      clear hpr hb1 HRP
      go_wp2_with fail
      refine hrp.mono ?_
      rintro e w2 ⟨rfl, hb2⟩
      have HB2 := hide (HB1.out.trans (hb2.mono HB1.out.size))
      clear hrp hb2 HB1 a0 a1 a2
      obtain ⟨a0, a1, a2⟩ := HCE.out w2 HB2.out
      have hpf := HPF.out w2
      clear HPF
      go_wp2_with fail
      refine hpf.mono ?_
      rintro e w3 ⟨rfl, hb3⟩
      have HB3 := hide (HB2.out.trans (hb3.mono HB2.out.size))
      clear hpf hb3 HB2 a0 a1 a2
      obtain ⟨a0, a1, a2⟩ := HCE.out w3 HB3.out
      have hrf := HRF.out w3
      clear HRF
      go_wp2_with fail
      refine hrf.mono ?_
      rintro e w4 ⟨rfl, hww⟩
      subst hww
      clear hrf a0 a1 a2
      have k0 : ∀ p : Later w4, p.val.cell? ⟨W.heap.size, 0, none⟩ = some (.string v) := fun p => (HCE.out _ (HB3.out.trans (p.below.mono HB3.out.size))).1
      have s1 : ∀ p : Later w4, _ := fun p => HVO.out p.val
      have s2 : ∀ p : Later w4, _ := fun p => HRV.out p.val
      have s3 : ∀ p : Later w4, _ := fun p => awake_any p.val (T.later (H00.out.trans ((HB3.out.trans (p.below.mono HB3.out.size)).mono H00.out.size)))
      have hne := later_ne w4
      clear HVO HRV
      go_wp2
      refine wp_region_later (by kernel_rfl) (by kernel_rfl) ?_
      (repeat (first | go_big_quiet_skip | (go_big_quiet_want; go_big_quiet_op; go_big_quiet_on)))
      (go_big_quiet_want; go_big_quiet_op; apply Exists.intro; refine ⟨fun p => ?_, ?_⟩; (· exact later_of (same_b (s1 p))); go_big_quiet_on)
      (repeat (first | go_big_quiet_skip | (go_big_quiet_want; go_big_quiet_op; go_big_quiet_on)))
      (go_big_quiet_want; go_big_quiet_op; apply Exists.intro; refine ⟨fun p => ?_, ?_⟩; (· exact later_of (same_b (s2 p))); go_big_quiet_on)
      (repeat (first | go_big_quiet_skip | (go_big_quiet_want; go_big_quiet_op; go_big_quiet_on)))
      (go_big_quiet_want; go_big_quiet_op; apply Exists.intro; refine ⟨fun p => ?_, ?_⟩; (· exact later_of (s3 p)); go_big_quiet_on)
      (repeat (first | go_big_quiet_skip | (go_big_quiet_want; go_big_quiet_op; go_big_quiet_on)))
      refine wpQuiet_nil ?_
      rintro _ ⟨p, rfl⟩
      have HB := hide (H00.out.trans ((HB3.out.trans (p.below.mono HB3.out.size)).mono H00.out.size))
      clear k0 s1 s2 s3 hne
      generalize p.val = w5 at *
      go_wp2
      go_ret
      exact ⟨rfl, HB.out⟩

end Wi
end Go.Proofs.YtnfakgdgjkgekaaDoor
