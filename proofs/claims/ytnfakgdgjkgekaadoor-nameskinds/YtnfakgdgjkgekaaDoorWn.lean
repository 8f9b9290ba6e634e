/- Names of texts: Parse. -/
import Derived.Test.YtnfakgdgjkgekaaDoorWm
namespace Go.Proofs.YtnfakgdgjkgekaaDoor
open Go.RowKit
namespace Wi

def parV (s : ByteArray) : ByteArray := s.extract 0 (s.size - 13)
def parR (s : ByteArray) : ByteArray := s.extract (s.size - 13) s.size
def parD (s : ByteArray) : ByteArray := (parR s).extract 3 13
def rb (s : ByteArray) (i : Nat) : Nat := (bs (parR s)).getD i 0
def okP (s : ByteArray) : Bool := decide (13 ≤ s.size) && (volB (parV s) && (decide (rb s 0 = 47) && (isK (rb s 1) && (decide (rb s 2 = 47) && numB (parD s)))))
def parE (s : ByteArray) : Int := if okP s then 0 else 12
def parS (s : ByteArray) : ByteArray := if okP s then parV s else { data := #[] }
def parK (s : ByteArray) : Nat := if okP s then kd (rb s 1) else 0
def parQ (s : ByteArray) : Nat := if okP s then numN (parD s) else 0
theorem parR_size {s : ByteArray} (h : 13 ≤ s.size) : (parR s).size = 13 := by unfold parR; rw [ByteArray.size_extract]; omega
theorem parD_size {s : ByteArray} (h : 13 ≤ s.size) : (parD s).size = 10 := by unfold parD; rw [ByteArray.size_extract, parR_size h]; omega
theorem rb_at {s : ByteArray} (h : 13 ≤ s.size) (i : Nat) (hi : i < 13) : ∃ h' : i < (parR s).size, ((parR s)[i]'h').toNat = rb s i := by
  have h' : i < (parR s).size := by rw [parR_size h]; exact hi
  refine ⟨h', ?_⟩
  unfold rb
  rw [List.getD_eq_getElem?_getD, bs_get _ i h']
  rfl
theorem run_upto9 (s : ByteArray) (k : Nat) (hk : k ≤ s.size) (w : World) : (Instr.slice 9 (.string s) none (some (.int .i64 (k : Nat))) none).run Tryd.prog w = .ok (.string (s.extract 0 k)) w := by
  simp [Instr.slice, Instr.sliceBounds, Instr.sliceBound, run_underlying Tryd.underlying9, asIntOf, hk]
theorem run_from9 (s : ByteArray) (k : Nat) (hk : k ≤ s.size) (w : World) : (Instr.slice 9 (.string s) (some (.int .i64 (k : Nat))) none none).run Tryd.prog w = .ok (.string (s.extract k s.size)) w := by
  simp [Instr.slice, Instr.sliceBounds, Instr.sliceBound, run_underlying Tryd.underlying9, asIntOf, hk]
def nm0 : Array Value := #[.string { data := #[] }, .int .i64 0, .int .i64 0]

set_option maxHeartbeats 4000000 in
theorem parse_any (s : ByteArray) (hs : s.size ≤ 9223372036854775807) (w : World) : Calls Tryd.prog 17 #[.string s] w fun e w' => e = .returned (.tuple #[.agg #[.string (parS s), .int .i64 (parK s : Nat), .int .i64 (parQ s : Nat)], .int .i64 (parE s)]) ∧ Below w.heap.size w w' := by
  have hb0 := below_alloc w (.cells #[.string { data := #[] }, .int .i64 0, .int .i64 0] 23)
  have hN0 := heap_alloc_new w (.cells #[.string { data := #[] }, .int .i64 0, .int .i64 0] 23)
  by_cases h13 : s.size < 13
  · have e0 : okP s = false := by simp [okP]; omega
    rw [show parS s = { data := #[] } by simp [parS, e0], show parK s = 0 by simp [parK, e0], show parQ s = 0 by simp [parQ, e0], show parE s = 12 by simp [parE, e0]]
    have HB0 := hide hb0
    clear e0 hN0 hb0
    go_enter Tryd.func17, Tryd.ntmps17
    go_wp2
    exact bodyPost_ret (v := .tuple #[.agg #[.string { data := #[] }, .int .i64 0, .int .i64 0], .int .i64 12]) (by simp [results, Tryd.results17, go_sem]) rfl ⟨rfl, HB0.out⟩
  · have h14 : 13 ≤ s.size := by omega
    have hR := parR_size h14
    have hD := parD_size h14
    obtain ⟨g0, e0⟩ := rb_at h14 0 (by omega)
    obtain ⟨g1, e1⟩ := rb_at h14 1 (by omega)
    obtain ⟨g2, e2⟩ := rb_at h14 2 (by omega)
    have l0 : rb s 0 < 256 := by rw [← e0]; exact UInt8.toNat_lt _
    have l1 : rb s 1 < 256 := by rw [← e1]; exact UInt8.toNat_lt _
    have l2 : rb s 2 < 256 := by rw [← e2]; exact UInt8.toNat_lt _
    have hs1 := run_upto9 s (s.size - 13) (by omega)
    have hs2 := run_from9 s (s.size - 13) (by omega)
    have hs3 : ∀ w, (Instr.slice 9 (.string (parR s)) (some (.int .i64 3)) none none).run Tryd.prog w = .ok (.string (parD s)) w := fun w => by
      have := run_from9 (parR s) 3 (by omega) w
      rw [hR] at this
      exact this
    rw [show s.extract 0 (s.size - 13) = parV s from rfl, show ((s.size - 13 : Nat) : Int) = (s.size : Int) - 13 by omega] at hs1
    rw [show s.extract (s.size - 13) s.size = parR s from rfl, show ((s.size - 13 : Nat) : Int) = (s.size : Int) - 13 by omega] at hs2
    have hVz : (parV s).size ≤ 9223372036854775807 := by unfold parV; rw [ByteArray.size_extract]; omega
    have HOK : Hid (okP s = (volB (parV s) && (decide (rb s 0 = 47) && (isK (rb s 1) && (decide (rb s 2 = 47) && numB (parD s)))))) := by
      show _ = _
      unfold okP
      rw [decide_eq_true h14, Bool.true_and]
    have HPS : Hid (parS s = if okP s then parV s else { data := #[] }) := rfl
    have HPK : Hid (parK s = if okP s then kd (rb s 1) else 0) := rfl
    have HPQ : Hid (parQ s = if okP s then numN (parD s) else 0) := rfl
    have HPE : Hid (parE s = if okP s then 0 else 12) := rfl
    have hkd := fun w => kind_any (rb s 1) l1 w
    have hnb := fun w => number_any (parD s) (by omega) w
    have hvo := fun w => volume_any (parV s) hVz w
    have HKD := hide hkd
    have HNB := hide hnb
    have HVO := hide hvo
    clear hkd hnb hvo
    have HVE : Hid (volE (parV s) = if volB (parV s) then 0 else 1) := rfl
    generalize parS s = PS at *
    generalize parK s = PK at *
    generalize parQ s = PQ at *
    generalize parE s = PE at *
    generalize okP s = OK at *
    generalize numN (parD s) = QN at *
    generalize numB (parD s) = QB at *
    generalize parD s = D at *
    generalize volB (parV s) = VB at *
    generalize volE (parV s) = VE at *
    generalize parV s = V at *
    generalize isK (rb s 1) = KB at *
    generalize kd (rb s 1) = KD at *
    generalize rb s 0 = r0 at *
    generalize rb s 1 = r1 at *
    generalize rb s 2 = r2 at *
    generalize parR s = R at *
    have lR : w.heap.size < (w.alloc (.cells #[.string { data := #[] }, .int .i64 0, .int .i64 0] 23)).heap.size := by simp
    have HB0 := hide hb0
    have HN0 := hide hN0
    obtain ⟨w0, hw0⟩ : ∃ w0, w0 = w.alloc (.cells #[.string { data := #[] }, .int .i64 0, .int .i64 0] 23) := ⟨_, rfl⟩
    rw [← hw0] at HB0 HN0 lR
    have HW0 := hide hw0
    have hne := later_ne (w.alloc (.cells #[.string { data := #[] }, .int .i64 0, .int .i64 0] 23))
    clear hb0 hN0 hw0
    cases VB with
    | false =>
      simp only [Bool.false_eq_true, if_false] at HVE
      rw [HVE.out] at HVO
      clear HVE
      have hOK : OK = false := by rw [HOK.out]; simp
      rw [hOK] at HPS HPK HPQ HPE
      simp only [Bool.false_eq_true, if_false] at HPS HPK HPQ HPE
      rw [HPS.out, HPK.out, HPQ.out, HPE.out]
      clear hOK HOK HPS HPK HPQ HPE
      go_enter Tryd.func17, Tryd.ntmps17
      go_wp2
      refine wp_region_later (by kernel_rfl) (by kernel_rfl) ?_
      (repeat (first | go_big_quiet_skip | (go_big_quiet_want; go_big_quiet_op; go_big_quiet_on)))
      refine wpQuiet_nil ?_
      rintro _ ⟨p, rfl⟩
      have HB1 := hide p.below
      clear hne
      generalize p.val = w1 at *
      rw [← HW0.out] at HB1
      have hk1 := HKD.out w1
      clear HKD
      go_wp2_with fail
      refine hk1.mono ?_
      rintro e w2 ⟨rfl, hb2⟩
      have HB2 := hide (HB1.out.trans (hb2.mono HB1.out.size))
      clear hk1 hb2 HB1
      have hn1 := HNB.out w2
      clear HNB
      go_wp2_with fail
      refine hn1.mono ?_
      rintro e w3 ⟨rfl, hww⟩
      subst hww
      clear hn1
      have hv1 := HVO.out w3
      clear HVO
      go_wp2_with fail
      refine hv1.mono ?_
      rintro e w4 ⟨rfl, hww⟩
      subst hww
      clear hv1
      have hblk := (HB2.out.block _ lR).trans HN0.out
      have q0 := cell_of_row w4 w.heap.size 0 _ _ _ hblk
      have q1 := cell_of_row w4 w.heap.size 1 _ _ _ hblk
      have q2 := cell_of_row w4 w.heap.size 2 _ _ _ hblk
      have fz : ∀ j, w4.frozen? ⟨w.heap.size, j, none⟩ = false := fun j => frozen_of_row w4 _ _ _ _ hblk
      simp only [List.getElem?_toArray, List.getElem?_cons_zero, List.getElem?_cons_succ] at q0 q1 q2
      have HF : Hid (∀ a b c, Below w.heap.size w (((w4.setCell ⟨w.heap.size, 0, none⟩ a).setCell ⟨w.heap.size, 1, none⟩ b).setCell ⟨w.heap.size, 2, none⟩ c)) := fun a b c => (HB0.out.trans (HB2.out.mono HB0.out.size)).trans ((((Keep.setCell (X := fun k => k = w.heap.size) w4 ⟨w.heap.size, 0, none⟩ a rfl).trans (Keep.setCell (X := fun k => k = w.heap.size) _ ⟨w.heap.size, 1, none⟩ b rfl) fun _ _ e => e).trans (Keep.setCell (X := fun k => k = w.heap.size) _ ⟨w.heap.size, 2, none⟩ c rfl) fun _ _ e => e).below (HB0.out.trans (HB2.out.mono HB0.out.size)).size fun k hk e => by omega)
      clear hblk HB2
      go_wp2
      exact bodyPost_ret (v := .tuple #[.agg #[.string { data := #[] }, .int .i64 0, .int .i64 0], .int .i64 12]) (by simp [results, Tryd.results17, go_sem, q0, q1, q2]) rfl ⟨rfl, HF.out _ _ _⟩
    | true =>
      simp only [if_true] at HVE
      rw [HVE.out] at HVO
      clear HVE
      by_cases h0 : r0 = 47
      · have b0 : ((r0 : Int) != 47) = false := by rw [h0]; rfl
        cases KB with
        | false =>
          have hOK : OK = false := by rw [HOK.out]; simp
          rw [hOK] at HPS HPK HPQ HPE
          simp only [Bool.false_eq_true, if_false] at HPS HPK HPQ HPE
          rw [HPS.out, HPK.out, HPQ.out, HPE.out]
          clear hOK HOK HPS HPK HPQ HPE
          clear h0
          go_enter Tryd.func17, Tryd.ntmps17
          go_wp2
          refine wp_region_later (by kernel_rfl) (by kernel_rfl) ?_
          (repeat (first | go_big_quiet_skip | (go_big_quiet_want; go_big_quiet_op; go_big_quiet_on)))
          refine wpQuiet_nil ?_
          rintro _ ⟨p, rfl⟩
          have HB1 := hide p.below
          clear hne
          generalize p.val = w1 at *
          rw [← HW0.out] at HB1
          have hk1 := HKD.out w1
          clear HKD
          go_wp2_with fail
          refine hk1.mono ?_
          rintro e w2 ⟨rfl, hb2⟩
          have HB2 := hide (HB1.out.trans (hb2.mono HB1.out.size))
          clear hk1 hb2 HB1
          have hn1 := HNB.out w2
          clear HNB
          go_wp2_with fail
          refine hn1.mono ?_
          rintro e w3 ⟨rfl, hww⟩
          subst hww
          clear hn1
          have hv1 := HVO.out w3
          clear HVO
          go_wp2_with fail
          refine hv1.mono ?_
          rintro e w4 ⟨rfl, hww⟩
          subst hww
          clear hv1
          have hblk := (HB2.out.block _ lR).trans HN0.out
          have q0 := cell_of_row w4 w.heap.size 0 _ _ _ hblk
          have q1 := cell_of_row w4 w.heap.size 1 _ _ _ hblk
          have q2 := cell_of_row w4 w.heap.size 2 _ _ _ hblk
          have fz : ∀ j, w4.frozen? ⟨w.heap.size, j, none⟩ = false := fun j => frozen_of_row w4 _ _ _ _ hblk
          simp only [List.getElem?_toArray, List.getElem?_cons_zero, List.getElem?_cons_succ] at q0 q1 q2
          have HF : Hid (∀ a b c, Below w.heap.size w (((w4.setCell ⟨w.heap.size, 0, none⟩ a).setCell ⟨w.heap.size, 1, none⟩ b).setCell ⟨w.heap.size, 2, none⟩ c)) := fun a b c => (HB0.out.trans (HB2.out.mono HB0.out.size)).trans ((((Keep.setCell (X := fun k => k = w.heap.size) w4 ⟨w.heap.size, 0, none⟩ a rfl).trans (Keep.setCell (X := fun k => k = w.heap.size) _ ⟨w.heap.size, 1, none⟩ b rfl) fun _ _ e => e).trans (Keep.setCell (X := fun k => k = w.heap.size) _ ⟨w.heap.size, 2, none⟩ c rfl) fun _ _ e => e).below (HB0.out.trans (HB2.out.mono HB0.out.size)).size fun k hk e => by omega)
          clear hblk HB2
          go_wp2
          exact bodyPost_ret (v := .tuple #[.agg #[.string { data := #[] }, .int .i64 0, .int .i64 0], .int .i64 12]) (by simp [results, Tryd.results17, go_sem, q0, q1, q2]) rfl ⟨rfl, HF.out _ _ _⟩
        | true =>
          by_cases h2 : r2 = 47
          · have b2 : ((r2 : Int) != 47) = false := by rw [h2]; rfl
            cases QB with
            | false =>
              have hOK : OK = false := by rw [HOK.out]; simp
              rw [hOK] at HPS HPK HPQ HPE
              simp only [Bool.false_eq_true, if_false] at HPS HPK HPQ HPE
              rw [HPS.out, HPK.out, HPQ.out, HPE.out]
              clear hOK HOK HPS HPK HPQ HPE
              clear h0 h2
              go_enter Tryd.func17, Tryd.ntmps17
              go_wp2
              refine wp_region_later (by kernel_rfl) (by kernel_rfl) ?_
              (repeat (first | go_big_quiet_skip | (go_big_quiet_want; go_big_quiet_op; go_big_quiet_on)))
              refine wpQuiet_nil ?_
              rintro _ ⟨p, rfl⟩
              have HB1 := hide p.below
              clear hne
              generalize p.val = w1 at *
              rw [← HW0.out] at HB1
              have hk1 := HKD.out w1
              clear HKD
              go_wp2_with fail
              refine hk1.mono ?_
              rintro e w2 ⟨rfl, hb2⟩
              have HB2 := hide (HB1.out.trans (hb2.mono HB1.out.size))
              clear hk1 hb2 HB1
              have hn1 := HNB.out w2
              clear HNB
              go_wp2_with fail
              refine hn1.mono ?_
              rintro e w3 ⟨rfl, hww⟩
              subst hww
              clear hn1
              have hv1 := HVO.out w3
              clear HVO
              go_wp2_with fail
              refine hv1.mono ?_
              rintro e w4 ⟨rfl, hww⟩
              subst hww
              clear hv1
              have hblk := (HB2.out.block _ lR).trans HN0.out
              have q0 := cell_of_row w4 w.heap.size 0 _ _ _ hblk
              have q1 := cell_of_row w4 w.heap.size 1 _ _ _ hblk
              have q2 := cell_of_row w4 w.heap.size 2 _ _ _ hblk
              have fz : ∀ j, w4.frozen? ⟨w.heap.size, j, none⟩ = false := fun j => frozen_of_row w4 _ _ _ _ hblk
              simp only [List.getElem?_toArray, List.getElem?_cons_zero, List.getElem?_cons_succ] at q0 q1 q2
              have HF : Hid (∀ a b c, Below w.heap.size w (((w4.setCell ⟨w.heap.size, 0, none⟩ a).setCell ⟨w.heap.size, 1, none⟩ b).setCell ⟨w.heap.size, 2, none⟩ c)) := fun a b c => (HB0.out.trans (HB2.out.mono HB0.out.size)).trans ((((Keep.setCell (X := fun k => k = w.heap.size) w4 ⟨w.heap.size, 0, none⟩ a rfl).trans (Keep.setCell (X := fun k => k = w.heap.size) _ ⟨w.heap.size, 1, none⟩ b rfl) fun _ _ e => e).trans (Keep.setCell (X := fun k => k = w.heap.size) _ ⟨w.heap.size, 2, none⟩ c rfl) fun _ _ e => e).below (HB0.out.trans (HB2.out.mono HB0.out.size)).size fun k hk e => by omega)
              clear hblk HB2
              go_wp2
              exact bodyPost_ret (v := .tuple #[.agg #[.string { data := #[] }, .int .i64 0, .int .i64 0], .int .i64 12]) (by simp [results, Tryd.results17, go_sem, q0, q1, q2]) rfl ⟨rfl, HF.out _ _ _⟩
            | true =>
              have hOK : OK = true := by rw [HOK.out]; simp [h0, h2]
              rw [hOK] at HPS HPK HPQ HPE
              simp only [if_true] at HPS HPK HPQ HPE
              rw [HPS.out, HPK.out, HPQ.out, HPE.out]
              clear hOK HOK HPS HPK HPQ HPE h0 h2
              go_enter Tryd.func17, Tryd.ntmps17
              go_wp2
              refine wp_region_later (by kernel_rfl) (by kernel_rfl) ?_
              (repeat (first | go_big_quiet_skip | (go_big_quiet_want; go_big_quiet_op; go_big_quiet_on)))
              refine wpQuiet_nil ?_
              rintro _ ⟨p, rfl⟩
              have HB1 := hide p.below
              clear hne
              generalize p.val = w1 at *
              rw [← HW0.out] at HB1
              have hk1 := HKD.out w1
              clear HKD
              go_wp2_with fail
              refine hk1.mono ?_
              rintro e w2 ⟨rfl, hb2⟩
              have HB2 := hide (HB1.out.trans (hb2.mono HB1.out.size))
              clear hk1 hb2 HB1
              have hn1 := HNB.out w2
              clear HNB
              go_wp2_with fail
              refine hn1.mono ?_
              rintro e w3 ⟨rfl, hww⟩
              subst hww
              clear hn1
              have hv1 := HVO.out w3
              clear HVO
              go_wp2_with fail
              refine hv1.mono ?_
              rintro e w4 ⟨rfl, hww⟩
              subst hww
              clear hv1
              have hblk := (HB2.out.block _ lR).trans HN0.out
              have q0 := cell_of_row w4 w.heap.size 0 _ _ _ hblk
              have q1 := cell_of_row w4 w.heap.size 1 _ _ _ hblk
              have q2 := cell_of_row w4 w.heap.size 2 _ _ _ hblk
              have fz : ∀ j, w4.frozen? ⟨w.heap.size, j, none⟩ = false := fun j => frozen_of_row w4 _ _ _ _ hblk
              simp only [List.getElem?_toArray, List.getElem?_cons_zero, List.getElem?_cons_succ] at q0 q1 q2
              have HF : Hid (∀ a b c, Below w.heap.size w (((w4.setCell ⟨w.heap.size, 0, none⟩ a).setCell ⟨w.heap.size, 1, none⟩ b).setCell ⟨w.heap.size, 2, none⟩ c)) := fun a b c => (HB0.out.trans (HB2.out.mono HB0.out.size)).trans ((((Keep.setCell (X := fun k => k = w.heap.size) w4 ⟨w.heap.size, 0, none⟩ a rfl).trans (Keep.setCell (X := fun k => k = w.heap.size) _ ⟨w.heap.size, 1, none⟩ b rfl) fun _ _ e => e).trans (Keep.setCell (X := fun k => k = w.heap.size) _ ⟨w.heap.size, 2, none⟩ c rfl) fun _ _ e => e).below (HB0.out.trans (HB2.out.mono HB0.out.size)).size fun k hk e => by omega)
              clear hblk HB2
              go_wp2
              exact bodyPost_ret (v := .tuple #[.agg #[.string V, .int .i64 (KD : Nat), .int .i64 (QN : Nat)], .int .i64 0]) (by simp [results, Tryd.results17, go_sem, q0, q1, q2]) rfl ⟨rfl, HF.out _ _ _⟩
          · have b2 : ((r2 : Int) != 47) = true := by simp; omega
            have e47 : decide (r2 = 47) = false := decide_eq_false h2
            rw [e47] at HOK
            have hOK : OK = false := by rw [HOK.out]; simp
            rw [hOK] at HPS HPK HPQ HPE
            simp only [Bool.false_eq_true, if_false] at HPS HPK HPQ HPE
            rw [HPS.out, HPK.out, HPQ.out, HPE.out]
            clear hOK HOK HPS HPK HPQ HPE
            clear e47
            go_enter Tryd.func17, Tryd.ntmps17
            go_wp2
            refine wp_region_later (by kernel_rfl) (by kernel_rfl) ?_
            (repeat (first | go_big_quiet_skip | (go_big_quiet_want; go_big_quiet_op; go_big_quiet_on)))
            refine wpQuiet_nil ?_
            rintro _ ⟨p, rfl⟩
            have HB1 := hide p.below
            clear hne
            generalize p.val = w1 at *
            rw [← HW0.out] at HB1
            have hk1 := HKD.out w1
            clear HKD
            go_wp2_with fail
            refine hk1.mono ?_
            rintro e w2 ⟨rfl, hb2⟩
            have HB2 := hide (HB1.out.trans (hb2.mono HB1.out.size))
            clear hk1 hb2 HB1
            have hn1 := HNB.out w2
            clear HNB
            go_wp2_with fail
            refine hn1.mono ?_
            rintro e w3 ⟨rfl, hww⟩
            subst hww
            clear hn1
            have hv1 := HVO.out w3
            clear HVO
            go_wp2_with fail
            refine hv1.mono ?_
            rintro e w4 ⟨rfl, hww⟩
            subst hww
            clear hv1
            have hblk := (HB2.out.block _ lR).trans HN0.out
            have q0 := cell_of_row w4 w.heap.size 0 _ _ _ hblk
            have q1 := cell_of_row w4 w.heap.size 1 _ _ _ hblk
            have q2 := cell_of_row w4 w.heap.size 2 _ _ _ hblk
            have fz : ∀ j, w4.frozen? ⟨w.heap.size, j, none⟩ = false := fun j => frozen_of_row w4 _ _ _ _ hblk
            simp only [List.getElem?_toArray, List.getElem?_cons_zero, List.getElem?_cons_succ] at q0 q1 q2
            have HF : Hid (∀ a b c, Below w.heap.size w (((w4.setCell ⟨w.heap.size, 0, none⟩ a).setCell ⟨w.heap.size, 1, none⟩ b).setCell ⟨w.heap.size, 2, none⟩ c)) := fun a b c => (HB0.out.trans (HB2.out.mono HB0.out.size)).trans ((((Keep.setCell (X := fun k => k = w.heap.size) w4 ⟨w.heap.size, 0, none⟩ a rfl).trans (Keep.setCell (X := fun k => k = w.heap.size) _ ⟨w.heap.size, 1, none⟩ b rfl) fun _ _ e => e).trans (Keep.setCell (X := fun k => k = w.heap.size) _ ⟨w.heap.size, 2, none⟩ c rfl) fun _ _ e => e).below (HB0.out.trans (HB2.out.mono HB0.out.size)).size fun k hk e => by omega)
            clear hblk HB2
            go_wp2
            exact bodyPost_ret (v := .tuple #[.agg #[.string { data := #[] }, .int .i64 0, .int .i64 0], .int .i64 12]) (by simp [results, Tryd.results17, go_sem, q0, q1, q2]) rfl ⟨rfl, HF.out _ _ _⟩
      · have b0 : ((r0 : Int) != 47) = true := by simp; omega
        have e47 : decide (r0 = 47) = false := decide_eq_false h0
        rw [e47] at HOK
        have hOK : OK = false := by rw [HOK.out]; simp
        rw [hOK] at HPS HPK HPQ HPE
        simp only [Bool.false_eq_true, if_false] at HPS HPK HPQ HPE
        rw [HPS.out, HPK.out, HPQ.out, HPE.out]
        clear hOK HOK HPS HPK HPQ HPE
        clear e47
        go_enter Tryd.func17, Tryd.ntmps17
        go_wp2
        refine wp_region_later (by kernel_rfl) (by kernel_rfl) ?_
        (repeat (first | go_big_quiet_skip | (go_big_quiet_want; go_big_quiet_op; go_big_quiet_on)))
        refine wpQuiet_nil ?_
        rintro _ ⟨p, rfl⟩
        have HB1 := hide p.below
        clear hne
        generalize p.val = w1 at *
        rw [← HW0.out] at HB1
        have hk1 := HKD.out w1
        clear HKD
        go_wp2_with fail
        refine hk1.mono ?_
        rintro e w2 ⟨rfl, hb2⟩
        have HB2 := hide (HB1.out.trans (hb2.mono HB1.out.size))
        clear hk1 hb2 HB1
        have hn1 := HNB.out w2
        clear HNB
        go_wp2_with fail
        refine hn1.mono ?_
        rintro e w3 ⟨rfl, hww⟩
        subst hww
        clear hn1
        have hv1 := HVO.out w3
        clear HVO
        go_wp2_with fail
        refine hv1.mono ?_
        rintro e w4 ⟨rfl, hww⟩
        subst hww
        clear hv1
        have hblk := (HB2.out.block _ lR).trans HN0.out
        have q0 := cell_of_row w4 w.heap.size 0 _ _ _ hblk
        have q1 := cell_of_row w4 w.heap.size 1 _ _ _ hblk
        have q2 := cell_of_row w4 w.heap.size 2 _ _ _ hblk
        have fz : ∀ j, w4.frozen? ⟨w.heap.size, j, none⟩ = false := fun j => frozen_of_row w4 _ _ _ _ hblk
        simp only [List.getElem?_toArray, List.getElem?_cons_zero, List.getElem?_cons_succ] at q0 q1 q2
        have HF : Hid (∀ a b c, Below w.heap.size w (((w4.setCell ⟨w.heap.size, 0, none⟩ a).setCell ⟨w.heap.size, 1, none⟩ b).setCell ⟨w.heap.size, 2, none⟩ c)) := fun a b c => (HB0.out.trans (HB2.out.mono HB0.out.size)).trans ((((Keep.setCell (X := fun k => k = w.heap.size) w4 ⟨w.heap.size, 0, none⟩ a rfl).trans (Keep.setCell (X := fun k => k = w.heap.size) _ ⟨w.heap.size, 1, none⟩ b rfl) fun _ _ e => e).trans (Keep.setCell (X := fun k => k = w.heap.size) _ ⟨w.heap.size, 2, none⟩ c rfl) fun _ _ e => e).below (HB0.out.trans (HB2.out.mono HB0.out.size)).size fun k hk e => by omega)
        clear hblk HB2
        go_wp2
        exact bodyPost_ret (v := .tuple #[.agg #[.string { data := #[] }, .int .i64 0, .int .i64 0], .int .i64 12]) (by simp [results, Tryd.results17, go_sem, q0, q1, q2]) rfl ⟨rfl, HF.out _ _ _⟩

end Wi
end Go.Proofs.YtnfakgdgjkgekaaDoor
