/- The law NamesOrder: texts of one volume and kind are in order as their numbers are. -/
import Derived.Test.YtnfakgdgjkgekaaDoorWu
import Derived.Test.YtnfakgdgjkgekaaDoorWr
import Derived.Test.YtnfakgdgjkgekaaDoorLw
namespace Go.Proofs.YtnfakgdgjkgekaaDoor
open Go.RowKit
namespace Wi

theorem num_err {v : ByteArray} {z q : Int} (hE : ¬ prnE v z q = 0) : prnE v z q = 1 ∨ prnE v z q = 14 ∨ prnE v z q = 31 := by
  have := pre_num v z
  unfold prnE at hE ⊢
  split
  · split
    · rename_i h3 h4; simp [h3, h4] at hE
    · omega
  · omega
theorem prn_size {v : ByteArray} {z q : Int} (h : prnE v z q = 0) : (prnS v z q).size ≤ 45 := by
  have hvs := vol_size (prn_ok h).1
  rw [show prnS v z q = str (prnL v z q) by simp [prnS, h], str_size, prnL, preL, List.length_append, List.length_append, dgs_length, bs_length]
  show v.size + 3 + 10 ≤ _
  omega
theorem pre_size {v : ByteArray} {z : Int} (h : preE v z = 0) : (preS v z).size ≤ 35 := by
  have hvs := vol_size (pre_ok h).1
  rw [← bs_length, bs_preS h, List.length_append, bs_length]
  show v.size + 3 ≤ _
  omega
theorem two_boxes (W : World) (o p : Obj) : Below W.heap.size W ((W.alloc o).alloc p) := (below_alloc W o).trans ((below_alloc (W.alloc o) p).mono (below_alloc W o).size)
set_option maxHeartbeats 8000000 in
theorem namesOrder_walk (oa ob : NmV) (W : World) (T : Tz W) (ha : NmOk oa) (hb : NmOk ob) : Calls Tryd.prog 8 #[.agg oa.cells.toArray, .agg ob.cells.toArray] W fun e w' => e = .returned (.bool true) ∧ Below W.heap.size W w' := by
  obtain ⟨v, z, q⟩ := oa
  obtain ⟨u, y, r⟩ := ob
  obtain ⟨hv, hz, hq⟩ := ha
  obtain ⟨hu, hy, hr⟩ := hb
  simp only at hv hz hq hu hy hr
  unfold NmV.cells
  simp only
  have hb0 := two_boxes W (.cells #[.string v, .int .i64 z, .int .i64 q] 23) (.cells #[.string u, .int .i64 y, .int .i64 r] 23)
  have hA0 := heap_alloc_new W (.cells #[.string v, .int .i64 z, .int .i64 q] 23)
  have hA1 := ((below_alloc (W.alloc (.cells #[.string v, .int .i64 z, .int .i64 q] 23)) (.cells #[.string u, .int .i64 y, .int .i64 r] 23)).block _ (lt_of_block hA0)).trans hA0
  have hB0 := heap_alloc_new (W.alloc (.cells #[.string v, .int .i64 z, .int .i64 q] 23)) (.cells #[.string u, .int .i64 y, .int .i64 r] 23)
  rw [show (W.alloc (.cells #[.string v, .int .i64 z, .int .i64 q] 23)).heap.size = W.heap.size + 1 by simp] at hB0
  by_cases h1 : 100 < v.size
  · have HB := hide hb0
    clear hb0 hA0 hA1 hB0
    go_enter Tryd.func8, Tryd.ntmps8
    go_wp2_with fail
    refine (awake_any _ (T.later HB.out)).mono ?_
    rintro e w9 ⟨rfl, hb9⟩
    go_wp2
    go_ret
    exact ⟨rfl, HB.out.trans (hb9.mono HB.out.size)⟩
  · by_cases h2 : 100 < u.size
    · have HB := hide hb0
      clear hb0 hA0 hA1 hB0
      go_enter Tryd.func8, Tryd.ntmps8
      go_wp2_with fail
      refine (awake_any _ (T.later HB.out)).mono ?_
      rintro e w9 ⟨rfl, hb9⟩
      go_wp2
      go_ret
      exact ⟨rfl, HB.out.trans (hb9.mono HB.out.size)⟩
    · have hpr := print_any v hv z q hz hq _ (T.later hb0)
      have HPF := hide fun w => prefix_any u hu y hy w
      have HP2 := hide fun w T => print_any u hu y r hy hr w T
      obtain ⟨w0, hw0⟩ : ∃ w0, w0 = (W.alloc (.cells #[.string v, .int .i64 z, .int .i64 q] 23)).alloc (.cells #[.string u, .int .i64 y, .int .i64 r] 23) := ⟨_, rfl⟩
      rw [← hw0] at hb0 hA1 hB0 hpr
      have HW0 := hide hw0
      have H00 := hide hb0
      have HA0 := hide hA1
      have HB0 := hide hB0
      have lA : W.heap.size < w0.heap.size := lt_of_block hA1
      have lB : W.heap.size + 1 < w0.heap.size := lt_of_block hB0
      obtain ⟨q1, q2⟩ := hq
      obtain ⟨r1, r2⟩ := hr
      obtain ⟨y1, y2⟩ := hy
      obtain ⟨z1, z2⟩ := hz
      clear hw0 hb0 hA0 hA1 hB0
      by_cases hE : prnE v z q = 0
      · by_cases hF : preE u y = 0
        · have hBI := begins_iff hE hF
          have hs1 := prn_size hE
          have hs2 := pre_size hF
          have HO := hide fun (hvu : v = u) (hzy : z = y) (hR : prnE u y r = 0) => order_of (v := u) (z := y) (q := q) (r := r) (by rw [← hvu, ← hzy]; exact hE) hR
          have HRN := hide (num_err (v := u) (z := y) (q := r))
          rw [hE] at hpr
          rw [hF] at HPF
          by_cases hvu : v = u
          · by_cases hzy : z = y
            · subst hvu hzy
              obtain ⟨g1, g2⟩ := hBI.2 ⟨rfl, rfl⟩
              have v1 : ((preS v z).toList == (preS v z).toList) = true := beq_lists rfl
              have v2 : (v.toList == v.toList) = true := beq_lists rfl
              have v3 : (z == z) = true := beq_self_eq_true z
              by_cases hR : prnE v z r = 0
              · obtain ⟨o1, o2⟩ := HO.out rfl rfl hR
                rw [hR] at HP2
                clear hBI HO HRN hE hF hR
                generalize prnS v z q = S at *
                generalize prnS v z r = S2 at *
                generalize preS v z = PS at *
                have o3 : (decide (q < r) == decide (q < r)) = true := beq_self_eq_true _
                have o4 : ((q == r) == (q == r)) = true := beq_self_eq_true _
                go_enter Tryd.func8, Tryd.ntmps8
                go_wp2_with fail
                rw [← HW0.out]
                refine hpr.mono ?_
                rintro e w1 ⟨rfl, hb1⟩
                have HBB := hide hb1
                have hblk := (HBB.out.block _ lA).trans HA0.out
                have hblk2 := (HBB.out.block _ lB).trans HB0.out
                have a0 := cell_of_row w1 W.heap.size 0 _ _ _ hblk
                have a1 := cell_of_row w1 W.heap.size 1 _ _ _ hblk
                have a2 := cell_of_row w1 W.heap.size 2 _ _ _ hblk
                have c0 := cell_of_row w1 (W.heap.size + 1) 0 _ _ _ hblk2
                have c1 := cell_of_row w1 (W.heap.size + 1) 1 _ _ _ hblk2
                have c2 := cell_of_row w1 (W.heap.size + 1) 2 _ _ _ hblk2
                simp only [List.getElem?_toArray, List.getElem?_cons_zero, List.getElem?_cons_succ] at a0 a1 a2 c0 c1 c2
                clear hblk hblk2
                have hpf := HPF.out w1
                clear hpr hb1 HPF
                go_wp2_with fail
                refine hpf.mono ?_
                rintro e w2 ⟨rfl, hb2⟩
                have HB2 := hide (HBB.out.trans (hb2.mono HBB.out.size))
                clear hpf hb2 HBB a0 a1 a2 c0 c1 c2
                have HBB := HB2
                clear HB2
                have HB := hide (H00.out.trans (HBB.out.mono H00.out.size))
                have hblk := (HBB.out.block _ lA).trans HA0.out
                have hblk2 := (HBB.out.block _ lB).trans HB0.out
                have a0 := cell_of_row w2 W.heap.size 0 _ _ _ hblk
                have a1 := cell_of_row w2 W.heap.size 1 _ _ _ hblk
                have a2 := cell_of_row w2 W.heap.size 2 _ _ _ hblk
                have c0 := cell_of_row w2 (W.heap.size + 1) 0 _ _ _ hblk2
                have c1 := cell_of_row w2 (W.heap.size + 1) 1 _ _ _ hblk2
                have c2 := cell_of_row w2 (W.heap.size + 1) 2 _ _ _ hblk2
                simp only [List.getElem?_toArray, List.getElem?_cons_zero, List.getElem?_cons_succ] at a0 a1 a2 c0 c1 c2
                clear hblk hblk2
                have hp2 := HP2.out _ (T.later HB.out)
                clear HP2
                go_wp2_with fail
                refine hp2.mono ?_
                rintro e w3 ⟨rfl, hb3⟩
                have HB3 := hide (HBB.out.trans (hb3.mono HBB.out.size))
                clear hp2 hb3 HBB HB a0 a1 a2 c0 c1 c2
                have HBB := HB3
                clear HB3
                have HB := hide (H00.out.trans (HBB.out.mono H00.out.size))
                have hblk := (HBB.out.block _ lA).trans HA0.out
                have hblk2 := (HBB.out.block _ lB).trans HB0.out
                have a0 := cell_of_row w3 W.heap.size 0 _ _ _ hblk
                have a1 := cell_of_row w3 W.heap.size 1 _ _ _ hblk
                have a2 := cell_of_row w3 W.heap.size 2 _ _ _ hblk
                have c0 := cell_of_row w3 (W.heap.size + 1) 0 _ _ _ hblk2
                have c1 := cell_of_row w3 (W.heap.size + 1) 1 _ _ _ hblk2
                have c2 := cell_of_row w3 (W.heap.size + 1) 2 _ _ _ hblk2
                simp only [List.getElem?_toArray, List.getElem?_cons_zero, List.getElem?_cons_succ] at a0 a1 a2 c0 c1 c2
                clear hblk hblk2
                go_wp2_with fail
                refine (awake_any _ (T.later HB.out)).mono ?_
                rintro e w9 ⟨rfl, hb9⟩
                go_wp2
                go_ret
                exact ⟨rfl, HB.out.trans (hb9.mono HB.out.size)⟩
              · have hor := HRN.out hR
                clear hBI HO HRN hE hF hR
                generalize prnS v z q = S at *
                generalize prnS v z r = S2 at *
                generalize prnE v z r = E at *
                generalize preS v z = PS at *
                have b0 : (E != 0) = true := by simp; omega
                go_enter Tryd.func8, Tryd.ntmps8
                go_wp2_with fail
                rw [← HW0.out]
                refine hpr.mono ?_
                rintro e w1 ⟨rfl, hb1⟩
                have HBB := hide hb1
                have hblk := (HBB.out.block _ lA).trans HA0.out
                have hblk2 := (HBB.out.block _ lB).trans HB0.out
                have a0 := cell_of_row w1 W.heap.size 0 _ _ _ hblk
                have a1 := cell_of_row w1 W.heap.size 1 _ _ _ hblk
                have a2 := cell_of_row w1 W.heap.size 2 _ _ _ hblk
                have c0 := cell_of_row w1 (W.heap.size + 1) 0 _ _ _ hblk2
                have c1 := cell_of_row w1 (W.heap.size + 1) 1 _ _ _ hblk2
                have c2 := cell_of_row w1 (W.heap.size + 1) 2 _ _ _ hblk2
                simp only [List.getElem?_toArray, List.getElem?_cons_zero, List.getElem?_cons_succ] at a0 a1 a2 c0 c1 c2
                clear hblk hblk2
                have hpf := HPF.out w1
                clear hpr hb1 HPF
                go_wp2_with fail
                refine hpf.mono ?_
                rintro e w2 ⟨rfl, hb2⟩
                have HB2 := hide (HBB.out.trans (hb2.mono HBB.out.size))
                clear hpf hb2 HBB a0 a1 a2 c0 c1 c2
                have HBB := HB2
                clear HB2
                have HB := hide (H00.out.trans (HBB.out.mono H00.out.size))
                have hblk := (HBB.out.block _ lA).trans HA0.out
                have hblk2 := (HBB.out.block _ lB).trans HB0.out
                have a0 := cell_of_row w2 W.heap.size 0 _ _ _ hblk
                have a1 := cell_of_row w2 W.heap.size 1 _ _ _ hblk
                have a2 := cell_of_row w2 W.heap.size 2 _ _ _ hblk
                have c0 := cell_of_row w2 (W.heap.size + 1) 0 _ _ _ hblk2
                have c1 := cell_of_row w2 (W.heap.size + 1) 1 _ _ _ hblk2
                have c2 := cell_of_row w2 (W.heap.size + 1) 2 _ _ _ hblk2
                simp only [List.getElem?_toArray, List.getElem?_cons_zero, List.getElem?_cons_succ] at a0 a1 a2 c0 c1 c2
                clear hblk hblk2
                have hp2 := HP2.out _ (T.later HB.out)
                clear HP2
                go_wp2_with fail
                refine hp2.mono ?_
                rintro e w3 ⟨rfl, hb3⟩
                have HB3 := hide (HB.out.trans (hb3.mono HB.out.size))
                clear hp2 hb3 HBB HB a0 a1 a2 c0 c1 c2
                have HB := HB3
                clear HB3
                go_wp2_with fail
                refine (awake_any _ (T.later HB.out)).mono ?_
                rintro e w9 ⟨rfl, hb9⟩
                go_wp2
                go_ret
                exact ⟨rfl, HB.out.trans (hb9.mono HB.out.size)⟩
            · have hnb : ¬ ((preS u y).size ≤ (prnS v z q).size ∧ (prnS v z q).extract 0 (preS u y).size = preS u y) := fun h => hzy (hBI.1 h).2
              subst hvu
              have v2 : (v.toList == v.toList) = true := beq_lists rfl
              have v3 : (z == y) = false := by rw [beq_eq_false_iff_ne]; exact hzy
              clear hBI HO HRN hE hF hzy
              generalize prnS v z q = S at *
              generalize preS v y = PS at *
              generalize prnE v y r = E2 at *
              generalize prnS v y r = S2 at *
              by_cases hsz : PS.size ≤ S.size
              · obtain ⟨X, hX⟩ : ∃ X, S.extract 0 PS.size = X := ⟨_, rfl⟩
                have v1 : (X.toList == PS.toList) = false := bne_lists fun e => hnb ⟨hsz, hX.trans e⟩
                clear hnb
                go_enter Tryd.func8, Tryd.ntmps8
                go_wp2_with fail
                rw [← HW0.out]
                refine hpr.mono ?_
                rintro e w1 ⟨rfl, hb1⟩
                have HBB := hide hb1
                have hblk := (HBB.out.block _ lA).trans HA0.out
                have hblk2 := (HBB.out.block _ lB).trans HB0.out
                have a0 := cell_of_row w1 W.heap.size 0 _ _ _ hblk
                have a1 := cell_of_row w1 W.heap.size 1 _ _ _ hblk
                have a2 := cell_of_row w1 W.heap.size 2 _ _ _ hblk
                have c0 := cell_of_row w1 (W.heap.size + 1) 0 _ _ _ hblk2
                have c1 := cell_of_row w1 (W.heap.size + 1) 1 _ _ _ hblk2
                have c2 := cell_of_row w1 (W.heap.size + 1) 2 _ _ _ hblk2
                simp only [List.getElem?_toArray, List.getElem?_cons_zero, List.getElem?_cons_succ] at a0 a1 a2 c0 c1 c2
                clear hblk hblk2
                have hpf := HPF.out w1
                clear hpr hb1 HPF
                go_wp2_with fail
                refine hpf.mono ?_
                rintro e w2 ⟨rfl, hb2⟩
                have HB2 := hide (HBB.out.trans (hb2.mono HBB.out.size))
                clear hpf hb2 HBB a0 a1 a2 c0 c1 c2
                have HBB := HB2
                clear HB2
                have HB := hide (H00.out.trans (HBB.out.mono H00.out.size))
                have hblk := (HBB.out.block _ lA).trans HA0.out
                have hblk2 := (HBB.out.block _ lB).trans HB0.out
                have a0 := cell_of_row w2 W.heap.size 0 _ _ _ hblk
                have a1 := cell_of_row w2 W.heap.size 1 _ _ _ hblk
                have a2 := cell_of_row w2 W.heap.size 2 _ _ _ hblk
                have c0 := cell_of_row w2 (W.heap.size + 1) 0 _ _ _ hblk2
                have c1 := cell_of_row w2 (W.heap.size + 1) 1 _ _ _ hblk2
                have c2 := cell_of_row w2 (W.heap.size + 1) 2 _ _ _ hblk2
                simp only [List.getElem?_toArray, List.getElem?_cons_zero, List.getElem?_cons_succ] at a0 a1 a2 c0 c1 c2
                clear hblk hblk2
                have hp2 := HP2.out _ (T.later HB.out)
                clear HP2
                go_wp2_with fail
                refine hp2.mono ?_
                rintro e w3 ⟨rfl, hb3⟩
                have HB3 := hide (HB.out.trans (hb3.mono HB.out.size))
                clear hp2 hb3 HBB HB a0 a1 a2 c0 c1 c2
                have HB := HB3
                clear HB3
                by_cases hE2 : E2 = 0
                · subst hE2
                  go_wp2_with fail
                  refine (awake_any _ (T.later HB.out)).mono ?_
                  rintro e w9 ⟨rfl, hb9⟩
                  go_wp2
                  go_ret
                  exact ⟨rfl, HB.out.trans (hb9.mono HB.out.size)⟩
                · have b5 : (E2 != 0) = true := by rw [bne_iff_ne]; exact hE2
                  go_wp2_with fail
                  refine (awake_any _ (T.later HB.out)).mono ?_
                  rintro e w9 ⟨rfl, hb9⟩
                  go_wp2
                  go_ret
                  exact ⟨rfl, HB.out.trans (hb9.mono HB.out.size)⟩
              · clear hnb
                go_enter Tryd.func8, Tryd.ntmps8
                go_wp2_with fail
                rw [← HW0.out]
                refine hpr.mono ?_
                rintro e w1 ⟨rfl, hb1⟩
                have HBB := hide hb1
                have hblk := (HBB.out.block _ lA).trans HA0.out
                have hblk2 := (HBB.out.block _ lB).trans HB0.out
                have a0 := cell_of_row w1 W.heap.size 0 _ _ _ hblk
                have a1 := cell_of_row w1 W.heap.size 1 _ _ _ hblk
                have a2 := cell_of_row w1 W.heap.size 2 _ _ _ hblk
                have c0 := cell_of_row w1 (W.heap.size + 1) 0 _ _ _ hblk2
                have c1 := cell_of_row w1 (W.heap.size + 1) 1 _ _ _ hblk2
                have c2 := cell_of_row w1 (W.heap.size + 1) 2 _ _ _ hblk2
                simp only [List.getElem?_toArray, List.getElem?_cons_zero, List.getElem?_cons_succ] at a0 a1 a2 c0 c1 c2
                clear hblk hblk2
                have hpf := HPF.out w1
                clear hpr hb1 HPF
                go_wp2_with fail
                refine hpf.mono ?_
                rintro e w2 ⟨rfl, hb2⟩
                have HB2 := hide (HBB.out.trans (hb2.mono HBB.out.size))
                clear hpf hb2 HBB a0 a1 a2 c0 c1 c2
                have HBB := HB2
                clear HB2
                have HB := hide (H00.out.trans (HBB.out.mono H00.out.size))
                have hblk := (HBB.out.block _ lA).trans HA0.out
                have hblk2 := (HBB.out.block _ lB).trans HB0.out
                have a0 := cell_of_row w2 W.heap.size 0 _ _ _ hblk
                have a1 := cell_of_row w2 W.heap.size 1 _ _ _ hblk
                have a2 := cell_of_row w2 W.heap.size 2 _ _ _ hblk
                have c0 := cell_of_row w2 (W.heap.size + 1) 0 _ _ _ hblk2
                have c1 := cell_of_row w2 (W.heap.size + 1) 1 _ _ _ hblk2
                have c2 := cell_of_row w2 (W.heap.size + 1) 2 _ _ _ hblk2
                simp only [List.getElem?_toArray, List.getElem?_cons_zero, List.getElem?_cons_succ] at a0 a1 a2 c0 c1 c2
                clear hblk hblk2
                have hp2 := HP2.out _ (T.later HB.out)
                clear HP2
                go_wp2_with fail
                refine hp2.mono ?_
                rintro e w3 ⟨rfl, hb3⟩
                have HB3 := hide (HB.out.trans (hb3.mono HB.out.size))
                clear hp2 hb3 HBB HB a0 a1 a2 c0 c1 c2
                have HB := HB3
                clear HB3
                by_cases hE2 : E2 = 0
                · subst hE2
                  go_wp2_with fail
                  refine (awake_any _ (T.later HB.out)).mono ?_
                  rintro e w9 ⟨rfl, hb9⟩
                  go_wp2
                  go_ret
                  exact ⟨rfl, HB.out.trans (hb9.mono HB.out.size)⟩
                · have b5 : (E2 != 0) = true := by rw [bne_iff_ne]; exact hE2
                  go_wp2_with fail
                  refine (awake_any _ (T.later HB.out)).mono ?_
                  rintro e w9 ⟨rfl, hb9⟩
                  go_wp2
                  go_ret
                  exact ⟨rfl, HB.out.trans (hb9.mono HB.out.size)⟩
          · have hnb : ¬ ((preS u y).size ≤ (prnS v z q).size ∧ (prnS v z q).extract 0 (preS u y).size = preS u y) := fun h => hvu (hBI.1 h).1
            have v2 : (v.toList == u.toList) = false := bne_lists hvu
            clear hBI HO HRN hE hF hvu
            generalize prnS v z q = S at *
            generalize preS u y = PS at *
            generalize prnE u y r = E2 at *
            generalize prnS u y r = S2 at *
            by_cases hsz : PS.size ≤ S.size
            · obtain ⟨X, hX⟩ : ∃ X, S.extract 0 PS.size = X := ⟨_, rfl⟩
              have v1 : (X.toList == PS.toList) = false := bne_lists fun e => hnb ⟨hsz, hX.trans e⟩
              clear hnb
              go_enter Tryd.func8, Tryd.ntmps8
              go_wp2_with fail
              rw [← HW0.out]
              refine hpr.mono ?_
              rintro e w1 ⟨rfl, hb1⟩
              have HBB := hide hb1
              have hblk := (HBB.out.block _ lA).trans HA0.out
              have hblk2 := (HBB.out.block _ lB).trans HB0.out
              have a0 := cell_of_row w1 W.heap.size 0 _ _ _ hblk
              have a1 := cell_of_row w1 W.heap.size 1 _ _ _ hblk
              have a2 := cell_of_row w1 W.heap.size 2 _ _ _ hblk
              have c0 := cell_of_row w1 (W.heap.size + 1) 0 _ _ _ hblk2
              have c1 := cell_of_row w1 (W.heap.size + 1) 1 _ _ _ hblk2
              have c2 := cell_of_row w1 (W.heap.size + 1) 2 _ _ _ hblk2
              simp only [List.getElem?_toArray, List.getElem?_cons_zero, List.getElem?_cons_succ] at a0 a1 a2 c0 c1 c2
              clear hblk hblk2
              have hpf := HPF.out w1
              clear hpr hb1 HPF
              go_wp2_with fail
              refine hpf.mono ?_
              rintro e w2 ⟨rfl, hb2⟩
              have HB2 := hide (HBB.out.trans (hb2.mono HBB.out.size))
              clear hpf hb2 HBB a0 a1 a2 c0 c1 c2
              have HBB := HB2
              clear HB2
              have HB := hide (H00.out.trans (HBB.out.mono H00.out.size))
              have hblk := (HBB.out.block _ lA).trans HA0.out
              have hblk2 := (HBB.out.block _ lB).trans HB0.out
              have a0 := cell_of_row w2 W.heap.size 0 _ _ _ hblk
              have a1 := cell_of_row w2 W.heap.size 1 _ _ _ hblk
              have a2 := cell_of_row w2 W.heap.size 2 _ _ _ hblk
              have c0 := cell_of_row w2 (W.heap.size + 1) 0 _ _ _ hblk2
              have c1 := cell_of_row w2 (W.heap.size + 1) 1 _ _ _ hblk2
              have c2 := cell_of_row w2 (W.heap.size + 1) 2 _ _ _ hblk2
              simp only [List.getElem?_toArray, List.getElem?_cons_zero, List.getElem?_cons_succ] at a0 a1 a2 c0 c1 c2
              clear hblk hblk2
              have hp2 := HP2.out _ (T.later HB.out)
              clear HP2
              go_wp2_with fail
              refine hp2.mono ?_
              rintro e w3 ⟨rfl, hb3⟩
              have HB3 := hide (HB.out.trans (hb3.mono HB.out.size))
              clear hp2 hb3 HBB HB a0 a1 a2 c0 c1 c2
              have HB := HB3
              clear HB3
              by_cases hE2 : E2 = 0
              · subst hE2
                go_wp2_with fail
                refine (awake_any _ (T.later HB.out)).mono ?_
                rintro e w9 ⟨rfl, hb9⟩
                go_wp2
                go_ret
                exact ⟨rfl, HB.out.trans (hb9.mono HB.out.size)⟩
              · have b5 : (E2 != 0) = true := by rw [bne_iff_ne]; exact hE2
                go_wp2_with fail
                refine (awake_any _ (T.later HB.out)).mono ?_
                rintro e w9 ⟨rfl, hb9⟩
                go_wp2
                go_ret
                exact ⟨rfl, HB.out.trans (hb9.mono HB.out.size)⟩
            · clear hnb
              go_enter Tryd.func8, Tryd.ntmps8
              go_wp2_with fail
              rw [← HW0.out]
              refine hpr.mono ?_
              rintro e w1 ⟨rfl, hb1⟩
              have HBB := hide hb1
              have hblk := (HBB.out.block _ lA).trans HA0.out
              have hblk2 := (HBB.out.block _ lB).trans HB0.out
              have a0 := cell_of_row w1 W.heap.size 0 _ _ _ hblk
              have a1 := cell_of_row w1 W.heap.size 1 _ _ _ hblk
              have a2 := cell_of_row w1 W.heap.size 2 _ _ _ hblk
              have c0 := cell_of_row w1 (W.heap.size + 1) 0 _ _ _ hblk2
              have c1 := cell_of_row w1 (W.heap.size + 1) 1 _ _ _ hblk2
              have c2 := cell_of_row w1 (W.heap.size + 1) 2 _ _ _ hblk2
              simp only [List.getElem?_toArray, List.getElem?_cons_zero, List.getElem?_cons_succ] at a0 a1 a2 c0 c1 c2
              clear hblk hblk2
              have hpf := HPF.out w1
              clear hpr hb1 HPF
              go_wp2_with fail
              refine hpf.mono ?_
              rintro e w2 ⟨rfl, hb2⟩
              have HB2 := hide (HBB.out.trans (hb2.mono HBB.out.size))
              clear hpf hb2 HBB a0 a1 a2 c0 c1 c2
              have HBB := HB2
              clear HB2
              have HB := hide (H00.out.trans (HBB.out.mono H00.out.size))
              have hblk := (HBB.out.block _ lA).trans HA0.out
              have hblk2 := (HBB.out.block _ lB).trans HB0.out
              have a0 := cell_of_row w2 W.heap.size 0 _ _ _ hblk
              have a1 := cell_of_row w2 W.heap.size 1 _ _ _ hblk
              have a2 := cell_of_row w2 W.heap.size 2 _ _ _ hblk
              have c0 := cell_of_row w2 (W.heap.size + 1) 0 _ _ _ hblk2
              have c1 := cell_of_row w2 (W.heap.size + 1) 1 _ _ _ hblk2
              have c2 := cell_of_row w2 (W.heap.size + 1) 2 _ _ _ hblk2
              simp only [List.getElem?_toArray, List.getElem?_cons_zero, List.getElem?_cons_succ] at a0 a1 a2 c0 c1 c2
              clear hblk hblk2
              have hp2 := HP2.out _ (T.later HB.out)
              clear HP2
              go_wp2_with fail
              refine hp2.mono ?_
              rintro e w3 ⟨rfl, hb3⟩
              have HB3 := hide (HB.out.trans (hb3.mono HB.out.size))
              clear hp2 hb3 HBB HB a0 a1 a2 c0 c1 c2
              have HB := HB3
              clear HB3
              by_cases hE2 : E2 = 0
              · subst hE2
                go_wp2_with fail
                refine (awake_any _ (T.later HB.out)).mono ?_
                rintro e w9 ⟨rfl, hb9⟩
                go_wp2
                go_ret
                exact ⟨rfl, HB.out.trans (hb9.mono HB.out.size)⟩
              · have b5 : (E2 != 0) = true := by rw [bne_iff_ne]; exact hE2
                go_wp2_with fail
                refine (awake_any _ (T.later HB.out)).mono ?_
                rintro e w9 ⟨rfl, hb9⟩
                go_wp2
                go_ret
                exact ⟨rfl, HB.out.trans (hb9.mono HB.out.size)⟩
        · have hor := pre_num u y
          rw [hE] at hpr
          clear hE HP2
          generalize prnS v z q = S at *
          generalize preE u y = E at *
          generalize preS u y = PS at *
          have b0 : (E != 0) = true := by simp; omega
          have b1 : (E == 0) = false := by simp; omega
          clear hF hor
          go_enter Tryd.func8, Tryd.ntmps8
          go_wp2_with fail
          rw [← HW0.out]
          refine hpr.mono ?_
          rintro e w1 ⟨rfl, hb1⟩
          have HBB := hide hb1
          have hblk := (HBB.out.block _ lA).trans HA0.out
          have hblk2 := (HBB.out.block _ lB).trans HB0.out
          have a0 := cell_of_row w1 W.heap.size 0 _ _ _ hblk
          have a1 := cell_of_row w1 W.heap.size 1 _ _ _ hblk
          have a2 := cell_of_row w1 W.heap.size 2 _ _ _ hblk
          have c0 := cell_of_row w1 (W.heap.size + 1) 0 _ _ _ hblk2
          have c1 := cell_of_row w1 (W.heap.size + 1) 1 _ _ _ hblk2
          have c2 := cell_of_row w1 (W.heap.size + 1) 2 _ _ _ hblk2
          simp only [List.getElem?_toArray, List.getElem?_cons_zero, List.getElem?_cons_succ] at a0 a1 a2 c0 c1 c2
          clear hblk hblk2
          have hpf := HPF.out w1
          clear hpr hb1 HPF
          go_wp2_with fail
          refine hpf.mono ?_
          rintro e w2 ⟨rfl, hb2⟩
          have HB2 := hide (HBB.out.trans (hb2.mono HBB.out.size))
          clear hpf hb2 HBB a0 a1 a2 c0 c1 c2
          have HBB := HB2
          clear HB2
          have HB := hide (H00.out.trans (HBB.out.mono H00.out.size))
          have hblk := (HBB.out.block _ lA).trans HA0.out
          have hblk2 := (HBB.out.block _ lB).trans HB0.out
          have a0 := cell_of_row w2 W.heap.size 0 _ _ _ hblk
          have a1 := cell_of_row w2 W.heap.size 1 _ _ _ hblk
          have a2 := cell_of_row w2 W.heap.size 2 _ _ _ hblk
          have c0 := cell_of_row w2 (W.heap.size + 1) 0 _ _ _ hblk2
          have c1 := cell_of_row w2 (W.heap.size + 1) 1 _ _ _ hblk2
          have c2 := cell_of_row w2 (W.heap.size + 1) 2 _ _ _ hblk2
          simp only [List.getElem?_toArray, List.getElem?_cons_zero, List.getElem?_cons_succ] at a0 a1 a2 c0 c1 c2
          clear hblk hblk2
          go_wp2_with fail
          refine (awake_any _ (T.later HB.out)).mono ?_
          rintro e w9 ⟨rfl, hb9⟩
          go_wp2
          go_ret
          exact ⟨rfl, HB.out.trans (hb9.mono HB.out.size)⟩
      · have hor := num_err hE
        clear HP2
        generalize prnS v z q = S at *
        generalize prnE v z q = E at *
        generalize preE u y = E2 at *
        generalize preS u y = PS at *
        have b0 : (E != 0) = true := by simp; omega
        have b1 : (E == 0) = false := by simp; omega
        clear hE hor
        go_enter Tryd.func8, Tryd.ntmps8
        go_wp2_with fail
        rw [← HW0.out]
        refine hpr.mono ?_
        rintro e w1 ⟨rfl, hb1⟩
        have HBB := hide hb1
        have hblk := (HBB.out.block _ lA).trans HA0.out
        have hblk2 := (HBB.out.block _ lB).trans HB0.out
        have a0 := cell_of_row w1 W.heap.size 0 _ _ _ hblk
        have a1 := cell_of_row w1 W.heap.size 1 _ _ _ hblk
        have a2 := cell_of_row w1 W.heap.size 2 _ _ _ hblk
        have c0 := cell_of_row w1 (W.heap.size + 1) 0 _ _ _ hblk2
        have c1 := cell_of_row w1 (W.heap.size + 1) 1 _ _ _ hblk2
        have c2 := cell_of_row w1 (W.heap.size + 1) 2 _ _ _ hblk2
        simp only [List.getElem?_toArray, List.getElem?_cons_zero, List.getElem?_cons_succ] at a0 a1 a2 c0 c1 c2
        clear hblk hblk2
        have hpf := HPF.out w1
        clear hpr hb1 HPF
        go_wp2_with fail
        refine hpf.mono ?_
        rintro e w2 ⟨rfl, hb2⟩
        have HB2 := hide (HBB.out.trans (hb2.mono HBB.out.size))
        clear hpf hb2 HBB a0 a1 a2 c0 c1 c2
        have HBB := HB2
        clear HB2
        have HB := hide (H00.out.trans (HBB.out.mono H00.out.size))
        have hblk := (HBB.out.block _ lA).trans HA0.out
        have hblk2 := (HBB.out.block _ lB).trans HB0.out
        have a0 := cell_of_row w2 W.heap.size 0 _ _ _ hblk
        have a1 := cell_of_row w2 W.heap.size 1 _ _ _ hblk
        have a2 := cell_of_row w2 W.heap.size 2 _ _ _ hblk
        have c0 := cell_of_row w2 (W.heap.size + 1) 0 _ _ _ hblk2
        have c1 := cell_of_row w2 (W.heap.size + 1) 1 _ _ _ hblk2
        have c2 := cell_of_row w2 (W.heap.size + 1) 2 _ _ _ hblk2
        simp only [List.getElem?_toArray, List.getElem?_cons_zero, List.getElem?_cons_succ] at a0 a1 a2 c0 c1 c2
        clear hblk hblk2
        go_wp2_with fail
        refine (awake_any _ (T.later HB.out)).mono ?_
        rintro e w9 ⟨rfl, hb9⟩
        go_wp2
        go_ret
        exact ⟨rfl, HB.out.trans (hb9.mono HB.out.size)⟩

end Wi
end Go.Proofs.YtnfakgdgjkgekaaDoor
