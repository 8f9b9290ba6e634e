/- A part of the proofs about package span: what its functions answer, call by call. -/
import Derived.Test.YthbgniclplfpgaaLk
namespace Go.Proofs.Ythbgniclplfpgaa
open Go.RowKit
namespace Sp

set_option maxRecDepth 100000 in
set_option maxHeartbeats 4000000 in
theorem spanCuts_walk (a : Option Addr) (n cap : Nat) (xs : List (Int × Int)) (b : Option Addr) (m cap' : Nat) (ys : List (Int × Int)) (w : World) (hA : Sl w a n xs) (_hca : Cap a n cap) (hB : Sl w b m ys) (hcb : Cap b m cap') :
    Calls Try.prog 5 #[.slice a n cap, .slice b m cap'] w fun e w' => e = .returned (.bool true) ∧ Below w.heap.size w w' := by
  have hn := hA.most
  have hn2 := hB.most
  have haw := awake_any
  have hr1 := fun W hW => few_any a n cap xs W hW
  have hr2 := fun W hW => few_any b m cap' ys W hW
  cases hfx : fewB xs with
  | false =>
    rw [hfx] at hr1
    clear hfx
    go_enter Try.func5, Try.ntmps5
    go_wp2_with fail
    refine (hr1 _ hA).mono ?_
    rintro e wv1 ⟨rfl, hv1⟩
    replace hA := hA.later hv1
    replace hB := hB.later hv1
    have BB := hv1
    clear hv1
    go_wp2_with fail
    refine (haw _).mono ?_
    rintro e we ⟨rfl, hbe⟩
    go_wp2
    go_ret
    exact ⟨rfl, BB.trans (hbe.mono BB.size)⟩
  | true =>
    rw [hfx] at hr1
    cases hfy : fewB ys with
    | false =>
      rw [hfy] at hr2
      clear hfx hfy
      go_enter Try.func5, Try.ntmps5
      go_wp2_with fail
      refine (hr1 _ hA).mono ?_
      rintro e wv1 ⟨rfl, hv1⟩
      replace hA := hA.later hv1
      replace hB := hB.later hv1
      have BB := hv1
      clear hv1
      go_wp2_with fail
      refine (hr2 _ hB).mono ?_
      rintro e wv2 ⟨rfl, hv2⟩
      replace hA := hA.later hv2
      replace hB := hB.later hv2
      replace BB := BB.trans (hv2.mono BB.size)
      clear hv2
      go_wp2_with fail
      refine (haw _).mono ?_
      rintro e we ⟨rfl, hbe⟩
      go_wp2
      go_ret
      exact ⟨rfl, BB.trans (hbe.mono BB.size)⟩
    | true =>
      rw [hfy] at hr2
      go_enter Try.func5, Try.ntmps5
      go_wp2_with fail
      refine (hr1 _ hA).mono ?_
      rintro e wv1 ⟨rfl, hv1⟩
      replace hA := hA.later hv1
      replace hB := hB.later hv1
      have BB := hv1
      clear hv1
      go_wp2_with fail
      refine (hr2 _ hB).mono ?_
      rintro e wv2 ⟨rfl, hv2⟩
      replace hA := hA.later hv2
      replace hB := hB.later hv2
      replace BB := BB.trans (hv2.mono BB.size)
      clear hv2
      have hlx := few_len hfx
      have hly := few_len hfy
      have hrl := fun W hW => rcheck_any a n cap xs W hW
      have hro := fun W hW => rcheck_any b m cap' ys W hW
      have halo := fun W hW => all_any b m cap' ys W hW
      cases hx : setB xs with
      | false =>
        rw [hx] at hrl
        go_wp2_with fail
        refine (cut_no a b n m cap cap' xs ys _ hA hB (.inl hx)).mono ?_
        rintro e wv3 ⟨rfl, hv3⟩
        replace hA := hA.later hv3
        replace hB := hB.later hv3
        replace BB := BB.trans (hv3.mono BB.size)
        clear hv3
        go_wp2_with fail
        refine (meet_no a b n m cap cap' xs ys _ hA hB (.inl hx)).mono ?_
        rintro e wv4 ⟨rfl, hv4⟩
        replace hA := hA.later hv4
        replace hB := hB.later hv4
        replace BB := BB.trans (hv4.mono BB.size)
        clear hv4
        clear hx hfx hfy
        go_wp2_with fail
        refine (hrl _ hA).mono ?_
        rintro e wv5 ⟨rfl, hv5⟩
        replace hA := hA.later hv5
        replace hB := hB.later hv5
        replace BB := BB.trans (hv5.mono BB.size)
        clear hv5
        go_wp2_with fail
        refine (hrl _ hA).mono ?_
        rintro e wv6 ⟨rfl, hv6⟩
        replace hA := hA.later hv6
        replace hB := hB.later hv6
        replace BB := BB.trans (hv6.mono BB.size)
        clear hv6
        go_wp2_with fail
        refine (haw _).mono ?_
        rintro e we ⟨rfl, hbe⟩
        go_wp2
        go_ret
        exact ⟨rfl, BB.trans (hbe.mono BB.size)⟩
      | true =>
        rw [hx] at hrl
        have hal := allB_setB hx
        cases hbl : allB ys with
        | false =>
          have hsy : setB ys = false := by
            rw [Bool.eq_false_iff]; intro h; rw [allB_setB h] at hbl; cases hbl
          rw [hbl] at halo
          rw [hsy] at hro
          go_wp2_with fail
          refine (cut_no a b n m cap cap' xs ys _ hA hB (.inr hbl)).mono ?_
          rintro e wv3 ⟨rfl, hv3⟩
          replace hA := hA.later hv3
          replace hB := hB.later hv3
          replace BB := BB.trans (hv3.mono BB.size)
          clear hv3
          go_wp2_with fail
          refine (meet_no a b n m cap cap' xs ys _ hA hB (.inr hsy)).mono ?_
          rintro e wv4 ⟨rfl, hv4⟩
          replace hA := hA.later hv4
          replace hB := hB.later hv4
          replace BB := BB.trans (hv4.mono BB.size)
          clear hv4
          clear hx hbl hsy hal hfx hfy
          go_wp2_with fail
          refine (hrl _ hA).mono ?_
          rintro e wv5 ⟨rfl, hv5⟩
          replace hA := hA.later hv5
          replace hB := hB.later hv5
          replace BB := BB.trans (hv5.mono BB.size)
          clear hv5
          go_wp2_with fail
          refine (halo _ hB).mono ?_
          rintro e wv6 ⟨rfl, hv6⟩
          replace hA := hA.later hv6
          replace hB := hB.later hv6
          replace BB := BB.trans (hv6.mono BB.size)
          clear hv6
          go_wp2_with fail
          refine (hrl _ hA).mono ?_
          rintro e wv7 ⟨rfl, hv7⟩
          replace hA := hA.later hv7
          replace hB := hB.later hv7
          replace BB := BB.trans (hv7.mono BB.size)
          clear hv7
          go_wp2_with fail
          refine (hro _ hB).mono ?_
          rintro e wv8 ⟨rfl, hv8⟩
          replace hA := hA.later hv8
          replace hB := hB.later hv8
          replace BB := BB.trans (hv8.mono BB.size)
          clear hv8
          go_wp2_with fail
          refine (haw _).mono ?_
          rintro e we ⟨rfl, hbe⟩
          go_wp2
          go_ret
          exact ⟨rfl, BB.trans (hbe.mono BB.size)⟩
        | true =>
          rw [hbl] at halo
          cases hy : setB ys with
          | false =>
            rw [hy] at hro
            go_wp2_with fail
            refine (cut_ok a b n m cap cap' xs ys _ hA hB hx hbl (by omega)).mono ?_
            rintro e wv3 ⟨vv1, rs1, rfl, ow1, _, st1, mem1, hv3⟩
            obtain ⟨aa1, cc1, rfl, cap1, SL1⟩ := ow1.slc (fit_of_set st1)
            clear ow1
            replace hA := hA.later hv3
            replace hB := hB.later hv3
            replace BB := BB.trans (hv3.mono BB.size)
            clear hv3
            go_wp2_with fail
            refine (meet_no a b n m cap cap' xs ys _ hA hB (.inr hy)).mono ?_
            rintro e wv4 ⟨rfl, hv4⟩
            replace hA := hA.later hv4
            replace hB := hB.later hv4
            replace SL1 := SL1.later hv4
            replace BB := BB.trans (hv4.mono BB.size)
            clear hv4
            go_wp2_with fail
            refine (hrl _ hA).mono ?_
            rintro e wv5 ⟨rfl, hv5⟩
            replace hA := hA.later hv5
            replace hB := hB.later hv5
            replace SL1 := SL1.later hv5
            replace BB := BB.trans (hv5.mono BB.size)
            clear hv5
            go_wp2_with fail
            refine (halo _ hB).mono ?_
            rintro e wv6 ⟨rfl, hv6⟩
            replace hA := hA.later hv6
            replace hB := hB.later hv6
            replace SL1 := SL1.later hv6
            replace BB := BB.trans (hv6.mono BB.size)
            clear hv6
            go_wp2_with fail
            refine (sectors_any a n cap xs _ hA hal).mono ?_
            rintro e wv7 ⟨rfl, row1, hv7⟩
            replace hA := hA.later hv7
            replace hB := hB.later hv7
            replace SL1 := SL1.later hv7
            replace BB := BB.trans (hv7.mono BB.size)
            clear hv7
            go_wp2_with fail
            refine (sectors_any b m cap' ys _ hB hbl).mono ?_
            rintro e wv8 ⟨rfl, row2, hv8⟩
            replace hA := hA.later hv8
            replace hB := hB.later hv8
            replace SL1 := SL1.later hv8
            replace row1 := row1.later hv8
            replace BB := BB.trans (hv8.mono BB.size)
            clear hv8
            go_wp2_with fail
            refine (both_three _ _ 400 400 _ _ _ row1.sb row2.sb).mono ?_
            rintro e wv9 ⟨rs5, so5, vv5, rfl, ow5, _, hv9⟩
            obtain ⟨aa5, cc5, rfl, cap5, SL5⟩ := ow5.slc (fit_of_set so5.set)
            clear ow5
            replace hA := hA.later hv9
            replace hB := hB.later hv9
            replace SL1 := SL1.later hv9
            replace row1 := row1.later hv9
            replace row2 := row2.later hv9
            replace BB := BB.trans (hv9.mono BB.size)
            clear hv9
            obtain rfl : rs1 = rs5 := so_eq so5 st1 (fun i hi => few_wi hfx hal ((mem1 i).1 hi).1) fun j _ => by rw [mem1]; simp
            have hq1 := fun W hW hW' => same_any aa1 aa5 rs1.length rs1.length cc1 cc5 rs1 rs1 W hW hW'
            rw [show decide (rs1 = rs1) = true by simp] at hq1
            clear row1 row2 mem1 so5
            go_wp2_with fail
            refine (hq1 _ SL1 SL5).mono ?_
            rintro e wv10 ⟨rfl, hv10⟩
            replace hA := hA.later hv10
            replace hB := hB.later hv10
            replace SL1 := SL1.later hv10
            replace SL5 := SL5.later hv10
            replace BB := BB.trans (hv10.mono BB.size)
            clear hv10
            clear st1 hx hy hal hbl hfx hfy
            go_wp2_with fail
            refine (hrl _ hA).mono ?_
            rintro e wv11 ⟨rfl, hv11⟩
            replace hA := hA.later hv11
            replace hB := hB.later hv11
            replace SL1 := SL1.later hv11
            replace SL5 := SL5.later hv11
            replace BB := BB.trans (hv11.mono BB.size)
            clear hv11
            go_wp2_with fail
            refine (hro _ hB).mono ?_
            rintro e wv12 ⟨rfl, hv12⟩
            replace hA := hA.later hv12
            replace hB := hB.later hv12
            replace SL1 := SL1.later hv12
            replace SL5 := SL5.later hv12
            replace BB := BB.trans (hv12.mono BB.size)
            clear hv12
            go_wp2_with fail
            refine (haw _).mono ?_
            rintro e we ⟨rfl, hbe⟩
            go_wp2
            go_ret
            exact ⟨rfl, BB.trans (hbe.mono BB.size)⟩
          | true =>
            rw [hy] at hro
            go_wp2_with fail
            refine (cut_ok a b n m cap cap' xs ys _ hA hB hx hbl (by omega)).mono ?_
            rintro e wv3 ⟨vv1, rs1, rfl, ow1, _, st1, mem1, hv3⟩
            obtain ⟨aa1, cc1, rfl, cap1, SL1⟩ := ow1.slc (fit_of_set st1)
            clear ow1
            replace hA := hA.later hv3
            replace hB := hB.later hv3
            replace BB := BB.trans (hv3.mono BB.size)
            clear hv3
            go_wp2_with fail
            refine (meet_ok a b n m cap cap' xs ys _ hA hB hcb.1 hx hy).mono ?_
            rintro e wv4 ⟨vv3, rs3, rfl, ow3, _, st3, mem3, hv4⟩
            obtain ⟨aa3, cc3, rfl, cap3, SL3⟩ := ow3.slc (fit_of_set st3)
            clear ow3
            replace hA := hA.later hv4
            replace hB := hB.later hv4
            replace SL1 := SL1.later hv4
            replace BB := BB.trans (hv4.mono BB.size)
            clear hv4
            go_wp2_with fail
            refine (hrl _ hA).mono ?_
            rintro e wv5 ⟨rfl, hv5⟩
            replace hA := hA.later hv5
            replace hB := hB.later hv5
            replace SL1 := SL1.later hv5
            replace SL3 := SL3.later hv5
            replace BB := BB.trans (hv5.mono BB.size)
            clear hv5
            go_wp2_with fail
            refine (halo _ hB).mono ?_
            rintro e wv6 ⟨rfl, hv6⟩
            replace hA := hA.later hv6
            replace hB := hB.later hv6
            replace SL1 := SL1.later hv6
            replace SL3 := SL3.later hv6
            replace BB := BB.trans (hv6.mono BB.size)
            clear hv6
            go_wp2_with fail
            refine (sectors_any a n cap xs _ hA hal).mono ?_
            rintro e wv7 ⟨rfl, row1, hv7⟩
            replace hA := hA.later hv7
            replace hB := hB.later hv7
            replace SL1 := SL1.later hv7
            replace SL3 := SL3.later hv7
            replace BB := BB.trans (hv7.mono BB.size)
            clear hv7
            go_wp2_with fail
            refine (sectors_any b m cap' ys _ hB hbl).mono ?_
            rintro e wv8 ⟨rfl, row2, hv8⟩
            replace hA := hA.later hv8
            replace hB := hB.later hv8
            replace SL1 := SL1.later hv8
            replace SL3 := SL3.later hv8
            replace row1 := row1.later hv8
            replace BB := BB.trans (hv8.mono BB.size)
            clear hv8
            go_wp2_with fail
            refine (both_three _ _ 400 400 _ _ _ row1.sb row2.sb).mono ?_
            rintro e wv9 ⟨rs5, so5, vv5, rfl, ow5, _, hv9⟩
            obtain ⟨aa5, cc5, rfl, cap5, SL5⟩ := ow5.slc (fit_of_set so5.set)
            clear ow5
            replace hA := hA.later hv9
            replace hB := hB.later hv9
            replace SL1 := SL1.later hv9
            replace SL3 := SL3.later hv9
            replace row1 := row1.later hv9
            replace row2 := row2.later hv9
            replace BB := BB.trans (hv9.mono BB.size)
            clear hv9
            obtain rfl : rs1 = rs5 := so_eq so5 st1 (fun i hi => few_wi hfx hal ((mem1 i).1 hi).1) fun j _ => by rw [mem1]; simp
            have hq1 := fun W hW hW' => same_any aa1 aa5 rs1.length rs1.length cc1 cc5 rs1 rs1 W hW hW'
            rw [show decide (rs1 = rs1) = true by simp] at hq1
            clear row1 row2 mem1 so5
            go_wp2_with fail
            refine (hq1 _ SL1 SL5).mono ?_
            rintro e wv10 ⟨rfl, hv10⟩
            replace hA := hA.later hv10
            replace hB := hB.later hv10
            replace SL1 := SL1.later hv10
            replace SL3 := SL3.later hv10
            replace SL5 := SL5.later hv10
            replace BB := BB.trans (hv10.mono BB.size)
            clear hv10
            go_wp2_with fail
            refine (hrl _ hA).mono ?_
            rintro e wv11 ⟨rfl, hv11⟩
            replace hA := hA.later hv11
            replace hB := hB.later hv11
            replace SL1 := SL1.later hv11
            replace SL3 := SL3.later hv11
            replace SL5 := SL5.later hv11
            replace BB := BB.trans (hv11.mono BB.size)
            clear hv11
            go_wp2_with fail
            refine (hro _ hB).mono ?_
            rintro e wv12 ⟨rfl, hv12⟩
            replace hA := hA.later hv12
            replace hB := hB.later hv12
            replace SL1 := SL1.later hv12
            replace SL3 := SL3.later hv12
            replace SL5 := SL5.later hv12
            replace BB := BB.trans (hv12.mono BB.size)
            clear hv12
            go_wp2_with fail
            refine (sectors_any a n cap xs _ hA hal).mono ?_
            rintro e wv13 ⟨rfl, row1, hv13⟩
            replace hA := hA.later hv13
            replace hB := hB.later hv13
            replace SL1 := SL1.later hv13
            replace SL3 := SL3.later hv13
            replace SL5 := SL5.later hv13
            replace BB := BB.trans (hv13.mono BB.size)
            clear hv13
            go_wp2_with fail
            refine (sectors_any b m cap' ys _ hB hbl).mono ?_
            rintro e wv14 ⟨rfl, row2, hv14⟩
            replace hA := hA.later hv14
            replace hB := hB.later hv14
            replace SL1 := SL1.later hv14
            replace SL3 := SL3.later hv14
            replace SL5 := SL5.later hv14
            replace row1 := row1.later hv14
            replace BB := BB.trans (hv14.mono BB.size)
            clear hv14
            go_wp2_with fail
            refine (both_two _ _ 400 400 _ _ _ row1.sb row2.sb).mono ?_
            rintro e wv15 ⟨rs6, so6, vv6, rfl, ow6, _, hv15⟩
            obtain ⟨aa6, cc6, rfl, cap6, SL6⟩ := ow6.slc (fit_of_set so6.set)
            clear ow6
            replace hA := hA.later hv15
            replace hB := hB.later hv15
            replace SL1 := SL1.later hv15
            replace SL3 := SL3.later hv15
            replace SL5 := SL5.later hv15
            replace row1 := row1.later hv15
            replace row2 := row2.later hv15
            replace BB := BB.trans (hv15.mono BB.size)
            clear hv15
            obtain rfl : rs3 = rs6 := so_eq so6 st3 (fun i hi => few_wi hfx hal ((mem3 i).1 hi).1) fun j _ => by rw [mem3]; simp
            have hq2 := fun W hW hW' => same_any aa3 aa6 rs3.length rs3.length cc3 cc6 rs3 rs3 W hW hW'
            rw [show decide (rs3 = rs3) = true by simp] at hq2
            clear row1 row2 mem3 so6 st1 st3 hx hy hal hbl hfx hfy
            go_wp2_with fail
            refine (hq2 _ SL3 SL6).mono ?_
            rintro e wv16 ⟨rfl, hv16⟩
            replace hA := hA.later hv16
            replace hB := hB.later hv16
            replace SL1 := SL1.later hv16
            replace SL3 := SL3.later hv16
            replace SL5 := SL5.later hv16
            replace SL6 := SL6.later hv16
            replace BB := BB.trans (hv16.mono BB.size)
            clear hv16
            go_wp2_with fail
            refine (haw _).mono ?_
            rintro e we ⟨rfl, hbe⟩
            go_wp2
            go_ret
            exact ⟨rfl, BB.trans (hbe.mono BB.size)⟩

end Sp
end Go.Proofs.Ythbgniclplfpgaa
