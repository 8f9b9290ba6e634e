/- The law NamesBack: Parse of Print is the name, and Print of Parse the text. -/
import Derived.Test.YtnfakgdgjkgekaaDoorWt
import Derived.Test.YtnfakgdgjkgekaaDoorWr
import Derived.Test.YtnfakgdgjkgekaaDoorLw
namespace Go.Proofs.YtnfakgdgjkgekaaDoor
open Go.RowKit
namespace Wi

set_option maxHeartbeats 4000000 in
theorem namesBack_walk (o : NmV) (s : ByteArray) (W : World) (T : Tz W) (ho : NmOk o) (hs : s.size ≤ 9223372036854775807) : Calls Tryd.prog 7 #[.agg o.cells.toArray, .string s] W fun e w' => e = .returned (.bool true) ∧ Below W.heap.size W w' := by
  obtain ⟨v, z, q⟩ := o
  obtain ⟨hv, hz, hq⟩ := ho
  simp only at hv hz hq
  unfold NmV.cells
  simp only
  have hb0 := below_alloc W (.cells #[.string v, .int .i64 z, .int .i64 q] 23)
  have hN0 := heap_alloc_new W (.cells #[.string v, .int .i64 z, .int .i64 q] 23)
  by_cases h1 : 100 < v.size
  · have HB := hide hb0
    clear hb0 hN0
    go_enter Tryd.func7, Tryd.ntmps7
    go_wp2_with fail
    refine (awake_any _ (T.later HB.out)).mono ?_
    rintro e w9 ⟨rfl, hb9⟩
    go_wp2
    go_ret
    exact ⟨rfl, HB.out.trans (hb9.mono HB.out.size)⟩
  · by_cases h2 : 100 < s.size
    · have HB := hide hb0
      clear hb0 hN0
      go_enter Tryd.func7, Tryd.ntmps7
      go_wp2_with fail
      refine (awake_any _ (T.later HB.out)).mono ?_
      rintro e w9 ⟨rfl, hb9⟩
      go_wp2
      go_ret
      exact ⟨rfl, HB.out.trans (hb9.mono HB.out.size)⟩
    · have hpr := print_any v hv z q hz hq (W.alloc (.cells #[.string v, .int .i64 z, .int .i64 q] 23)) (T.later hb0)
      obtain ⟨w0, hw0⟩ : ∃ w0, w0 = W.alloc (.cells #[.string v, .int .i64 z, .int .i64 q] 23) := ⟨_, rfl⟩
      rw [← hw0] at hb0 hN0 hpr
      have HW0 := hide hw0
      have HB0 := hide hb0
      have HN0 := hide hN0
      have lR : W.heap.size < w0.heap.size := lt_of_block hN0
      clear hw0 hb0 hN0
      by_cases hE : prnE v z q = 0
      · obtain ⟨g1, g2, g3, g4⟩ := back1 hE
        have hvs := vol_size (prn_ok hE).1
        have hsz : (prnS v z q).size ≤ 9223372036854775807 := by
          rw [show prnS v z q = str (prnL v z q) by simp [prnS, hE], str_size, prnL, preL, List.length_append, List.length_append, dgs_length, bs_length]
          show v.size + 3 + 10 ≤ _
          omega
        have HPA := hide fun w => parse_any (prnS v z q) hsz w
        rw [g1, g2, g3, g4] at HPA
        rw [hE] at hpr
        have v2 : (v.toList == v.toList) = true := beq_lists rfl
        clear g1 g2 g3 g4 hE hsz
        generalize prnS v z q = S at *
        go_enter Tryd.func7, Tryd.ntmps7
        go_wp2_with fail
        rw [← HW0.out]
        refine hpr.mono ?_
        rintro e w1 ⟨rfl, hb1⟩
        have HB1 := hide hb1
        have hpa := HPA.out w1
        clear hpr hb1 HPA
        go_wp2_with fail
        refine hpa.mono ?_
        rintro e w2 ⟨rfl, hb2⟩
        have HB2 := hide (HB1.out.trans (hb2.mono HB1.out.size))
        have hblk := (HB2.out.block _ lR).trans HN0.out
        have hblk2 := (below_alloc w2 (.cells #[.string v, .int .i64 z, .int .i64 q] 23)).block _ (lt_of_block hblk)
        rw [hblk] at hblk2
        have q0 := cell_of_row w2 W.heap.size 0 _ _ _ hblk
        have q1 := cell_of_row w2 W.heap.size 1 _ _ _ hblk
        have q2 := cell_of_row w2 W.heap.size 2 _ _ _ hblk
        simp only [List.getElem?_toArray, List.getElem?_cons_zero, List.getElem?_cons_succ] at q0 q1 q2
        have lR2 : W.heap.size < w2.heap.size := lt_of_block hblk
        have hb3 := below_alloc w2 (.cells #[.string v, .int .i64 z, .int .i64 q] 23)
        have HBB := hide (HB0.out.trans ((HB2.out.trans (hb3.mono HB2.out.size)).mono HB0.out.size))
        clear hpa hb2 hblk hblk2 HB1 HB2 hb3 HB0
        have hps := parse_any s hs (w2.alloc (.cells #[.string v, .int .i64 z, .int .i64 q] 23))
        have HB := hide HBB.out
        clear HBB
        by_cases hE2 : parE s = 0
        · obtain ⟨f1, f2, f3⟩ := back2 hE2
          have hz2 : (parS s).size ≤ 9223372036854775807 := by have := vol_size f3; omega
          have hk2 : Num (parK s : Nat) := by
            have := prn_ok f1
            unfold Num
            omega
          have hq2 : Num (parQ s : Nat) := by
            have := prn_ok f1
            unfold Num
            omega
          have HPR := hide fun w T => print_any (parS s) hz2 (parK s : Nat) (parQ s : Nat) hk2 hq2 w T
          rw [f1, f2] at HPR
          rw [hE2] at hps
          have v1 : (s.toList == s.toList) = true := beq_lists rfl
          clear f1 f2 f3 hz2 hk2 hq2 hE2
          generalize parS s = PV at *
          generalize parK s = PK at *
          generalize parQ s = PQ at *
          go_wp2_with fail
          refine hps.mono ?_
          rintro e w5 ⟨rfl, hb5⟩
          have hb6 := below_alloc w5 (.cells #[.string PV, .int .i64 (PK : Nat), .int .i64 (PQ : Nat)] 23)
          have HB6 := hide (HB.out.trans ((hb5.trans (hb6.mono hb5.size)).mono HB.out.size))
          have hpr := HPR.out _ (T.later HB6.out)
          clear hps hb5 hb6 HPR HB
          go_wp2_with fail
          refine hpr.mono ?_
          rintro e w7 ⟨rfl, hb7⟩
          have HB := hide (HB6.out.trans (hb7.mono HB6.out.size))
          clear hpr hb7 HB6
          go_wp2_with fail
          refine (awake_any _ (T.later HB.out)).mono ?_
          rintro e w9 ⟨rfl, hb9⟩
          go_wp2
          go_ret
          exact ⟨rfl, HB.out.trans (hb9.mono HB.out.size)⟩
        · have hp2 : parE s = 12 := by
            unfold parE at hE2 ⊢
            split
            · rename_i h; simp [h] at hE2
            · rfl
          rw [hp2] at hps
          clear hp2 hE2
          generalize parS s = PV at *
          generalize parK s = PK at *
          generalize parQ s = PQ at *
          go_wp2_with fail
          refine hps.mono ?_
          rintro e w5 ⟨rfl, hb5⟩
          have hb6 := below_alloc w5 (.cells #[.string PV, .int .i64 (PK : Nat), .int .i64 (PQ : Nat)] 23)
          have HB6 := hide (HB.out.trans ((hb5.trans (hb6.mono hb5.size)).mono HB.out.size))
          clear hps hb5 hb6 HB
          have HB := HB6
          clear HB6
          go_wp2_with fail
          refine (awake_any _ (T.later HB.out)).mono ?_
          rintro e w9 ⟨rfl, hb9⟩
          go_wp2
          go_ret
          exact ⟨rfl, HB.out.trans (hb9.mono HB.out.size)⟩
      · have hor : prnE v z q = 1 ∨ prnE v z q = 14 ∨ prnE v z q = 31 := by
          have := pre_num v z
          unfold prnE at hE ⊢
          split
          · split
            · rename_i h3 h4; simp [h3, h4] at hE
            · omega
          · omega
        generalize prnE v z q = E at *
        generalize prnS v z q = S at *
        have b0 : (E == 0) = false := by simp; omega
        clear hE hor
        go_enter Tryd.func7, Tryd.ntmps7
        go_wp2_with fail
        rw [← HW0.out]
        refine hpr.mono ?_
        rintro e WW ⟨rfl, hb1⟩
        have HBB := hide (HB0.out.trans (hb1.mono HB0.out.size))
        clear hpr hb1 HB0
        have hps := parse_any s hs WW
        have HB := hide HBB.out
        clear HBB
        by_cases hE2 : parE s = 0
        · obtain ⟨f1, f2, f3⟩ := back2 hE2
          have hz2 : (parS s).size ≤ 9223372036854775807 := by have := vol_size f3; omega
          have hk2 : Num (parK s : Nat) := by
            have := prn_ok f1
            unfold Num
            omega
          have hq2 : Num (parQ s : Nat) := by
            have := prn_ok f1
            unfold Num
            omega
          have HPR := hide fun w T => print_any (parS s) hz2 (parK s : Nat) (parQ s : Nat) hk2 hq2 w T
          rw [f1, f2] at HPR
          rw [hE2] at hps
          have v1 : (s.toList == s.toList) = true := beq_lists rfl
          clear f1 f2 f3 hz2 hk2 hq2 hE2
          generalize parS s = PV at *
          generalize parK s = PK at *
          generalize parQ s = PQ at *
          go_wp2_with fail
          refine hps.mono ?_
          rintro e w5 ⟨rfl, hb5⟩
          have hb6 := below_alloc w5 (.cells #[.string PV, .int .i64 (PK : Nat), .int .i64 (PQ : Nat)] 23)
          have HB6 := hide (HB.out.trans ((hb5.trans (hb6.mono hb5.size)).mono HB.out.size))
          have hpr := HPR.out _ (T.later HB6.out)
          clear hps hb5 hb6 HPR HB
          go_wp2_with fail
          refine hpr.mono ?_
          rintro e w7 ⟨rfl, hb7⟩
          have HB := hide (HB6.out.trans (hb7.mono HB6.out.size))
          clear hpr hb7 HB6
          go_wp2_with fail
          refine (awake_any _ (T.later HB.out)).mono ?_
          rintro e w9 ⟨rfl, hb9⟩
          go_wp2
          go_ret
          exact ⟨rfl, HB.out.trans (hb9.mono HB.out.size)⟩
        · have hp2 : parE s = 12 := by
            unfold parE at hE2 ⊢
            split
            · rename_i h; simp [h] at hE2
            · rfl
          rw [hp2] at hps
          clear hp2 hE2
          generalize parS s = PV at *
          generalize parK s = PK at *
          generalize parQ s = PQ at *
          go_wp2_with fail
          refine hps.mono ?_
          rintro e w5 ⟨rfl, hb5⟩
          have hb6 := below_alloc w5 (.cells #[.string PV, .int .i64 (PK : Nat), .int .i64 (PQ : Nat)] 23)
          have HB6 := hide (HB.out.trans ((hb5.trans (hb6.mono hb5.size)).mono HB.out.size))
          clear hps hb5 hb6 HB
          have HB := HB6
          clear HB6
          go_wp2_with fail
          refine (awake_any _ (T.later HB.out)).mono ?_
          rintro e w9 ⟨rfl, hb9⟩
          go_wp2
          go_ret
          exact ⟨rfl, HB.out.trans (hb9.mono HB.out.size)⟩

end Wi
end Go.Proofs.YtnfakgdgjkgekaaDoor
