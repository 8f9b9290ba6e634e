/- A part of the proofs about package span: what its functions answer, call by call. -/
import Derived.Test.YthbgniclplfpgaaLk
namespace Go.Proofs.Ythbgniclplfpgaa
open Go.RowKit
namespace Sp

set_option maxHeartbeats 4000000 in
theorem spanMeets_walk (a : Option Addr) (n cap : Nat) (xs : List (Int × Int)) (b : Option Addr) (m cap' : Nat) (ys : List (Int × Int)) (c : Option Addr) (k cap'' : Nat) (zs : List (Int × Int)) (w : World) (hA : Sl w a n xs) (hca : Cap a n cap) (hB : Sl w b m ys) (hcb : Cap b m cap') (hC : Sl w c k zs) (hcc : Cap c k cap'') :
    Calls Try.prog 10 #[.slice a n cap, .slice b m cap', .slice c k cap''] w fun e w' => e = .returned (.bool true) ∧ Below w.heap.size w w' := by
  have hn := hA.most
  have hn2 := hB.most
  have hn3 := hC.most
  have haw := awake_any
  have hr1 := fun W hW => rcheck_any a n cap xs W hW
  have hr2 := fun W hW => rcheck_any b m cap' ys W hW
  have hr3 := fun W hW => rcheck_any c k cap'' zs W hW
  cases hx : setB xs with
  | false =>
    rw [hx] at hr1
    clear hx
    go_enter Try.func10, Try.ntmps10
    go_wp2_with fail
    refine (hr1 _ hA).mono ?_
    rintro e wv1 ⟨rfl, hv1⟩
    replace hA := hA.later hv1
    replace hB := hB.later hv1
    replace hC := hC.later hv1
    have BB := hv1
    clear hv1
    go_wp2_with fail
    refine (haw _).mono ?_
    rintro e we ⟨rfl, hbe⟩
    go_wp2
    go_ret
    exact ⟨rfl, BB.trans (hbe.mono BB.size)⟩
  | true =>
    rw [hx] at hr1
    cases hy : setB ys with
    | false =>
      rw [hy] at hr2
      clear hx hy
      go_enter Try.func10, Try.ntmps10
      go_wp2_with fail
      refine (hr1 _ hA).mono ?_
      rintro e wv1 ⟨rfl, hv1⟩
      replace hA := hA.later hv1
      replace hB := hB.later hv1
      replace hC := hC.later hv1
      have BB := hv1
      clear hv1
      go_wp2_with fail
      refine (hr2 _ hB).mono ?_
      rintro e wv2 ⟨rfl, hv2⟩
      replace hA := hA.later hv2
      replace hB := hB.later hv2
      replace hC := hC.later hv2
      replace BB := BB.trans (hv2.mono BB.size)
      clear hv2
      go_wp2_with fail
      refine (haw _).mono ?_
      rintro e we ⟨rfl, hbe⟩
      go_wp2
      go_ret
      exact ⟨rfl, BB.trans (hbe.mono BB.size)⟩
    | true =>
      rw [hy] at hr2
      cases hz : setB zs with
      | false =>
        rw [hz] at hr3
        clear hx hy hz
        go_enter Try.func10, Try.ntmps10
        go_wp2_with fail
        refine (hr1 _ hA).mono ?_
        rintro e wv1 ⟨rfl, hv1⟩
        replace hA := hA.later hv1
        replace hB := hB.later hv1
        replace hC := hC.later hv1
        have BB := hv1
        clear hv1
        go_wp2_with fail
        refine (hr2 _ hB).mono ?_
        rintro e wv2 ⟨rfl, hv2⟩
        replace hA := hA.later hv2
        replace hB := hB.later hv2
        replace hC := hC.later hv2
        replace BB := BB.trans (hv2.mono BB.size)
        clear hv2
        go_wp2_with fail
        refine (hr3 _ hC).mono ?_
        rintro e wv3 ⟨rfl, hv3⟩
        replace hA := hA.later hv3
        replace hB := hB.later hv3
        replace hC := hC.later hv3
        replace BB := BB.trans (hv3.mono BB.size)
        clear hv3
        go_wp2_with fail
        refine (haw _).mono ?_
        rintro e we ⟨rfl, hbe⟩
        go_wp2
        go_ret
        exact ⟨rfl, BB.trans (hbe.mono BB.size)⟩
      | true =>
        rw [hz] at hr3
        by_cases h1 : 100 < n
        · clear hx hy hz
          go_enter Try.func10, Try.ntmps10
          go_wp2_with fail
          refine (hr1 _ hA).mono ?_
          rintro e wv1 ⟨rfl, hv1⟩
          replace hA := hA.later hv1
          replace hB := hB.later hv1
          replace hC := hC.later hv1
          have BB := hv1
          clear hv1
          go_wp2_with fail
          refine (hr2 _ hB).mono ?_
          rintro e wv2 ⟨rfl, hv2⟩
          replace hA := hA.later hv2
          replace hB := hB.later hv2
          replace hC := hC.later hv2
          replace BB := BB.trans (hv2.mono BB.size)
          clear hv2
          go_wp2_with fail
          refine (hr3 _ hC).mono ?_
          rintro e wv3 ⟨rfl, hv3⟩
          replace hA := hA.later hv3
          replace hB := hB.later hv3
          replace hC := hC.later hv3
          replace BB := BB.trans (hv3.mono BB.size)
          clear hv3
          go_wp2_with fail
          refine (haw _).mono ?_
          rintro e we ⟨rfl, hbe⟩
          go_wp2
          go_ret
          exact ⟨rfl, BB.trans (hbe.mono BB.size)⟩
        · by_cases h2 : 100 < m
          · clear hx hy hz
            go_enter Try.func10, Try.ntmps10
            go_wp2_with fail
            refine (hr1 _ hA).mono ?_
            rintro e wv1 ⟨rfl, hv1⟩
            replace hA := hA.later hv1
            replace hB := hB.later hv1
            replace hC := hC.later hv1
            have BB := hv1
            clear hv1
            go_wp2_with fail
            refine (hr2 _ hB).mono ?_
            rintro e wv2 ⟨rfl, hv2⟩
            replace hA := hA.later hv2
            replace hB := hB.later hv2
            replace hC := hC.later hv2
            replace BB := BB.trans (hv2.mono BB.size)
            clear hv2
            go_wp2_with fail
            refine (hr3 _ hC).mono ?_
            rintro e wv3 ⟨rfl, hv3⟩
            replace hA := hA.later hv3
            replace hB := hB.later hv3
            replace hC := hC.later hv3
            replace BB := BB.trans (hv3.mono BB.size)
            clear hv3
            go_wp2_with fail
            refine (haw _).mono ?_
            rintro e we ⟨rfl, hbe⟩
            go_wp2
            go_ret
            exact ⟨rfl, BB.trans (hbe.mono BB.size)⟩
          · by_cases h3 : 100 < k
            · clear hx hy hz
              go_enter Try.func10, Try.ntmps10
              go_wp2_with fail
              refine (hr1 _ hA).mono ?_
              rintro e wv1 ⟨rfl, hv1⟩
              replace hA := hA.later hv1
              replace hB := hB.later hv1
              replace hC := hC.later hv1
              have BB := hv1
              clear hv1
              go_wp2_with fail
              refine (hr2 _ hB).mono ?_
              rintro e wv2 ⟨rfl, hv2⟩
              replace hA := hA.later hv2
              replace hB := hB.later hv2
              replace hC := hC.later hv2
              replace BB := BB.trans (hv2.mono BB.size)
              clear hv2
              go_wp2_with fail
              refine (hr3 _ hC).mono ?_
              rintro e wv3 ⟨rfl, hv3⟩
              replace hA := hA.later hv3
              replace hB := hB.later hv3
              replace hC := hC.later hv3
              replace BB := BB.trans (hv3.mono BB.size)
              clear hv3
              go_wp2_with fail
              refine (haw _).mono ?_
              rintro e we ⟨rfl, hbe⟩
              go_wp2
              go_ret
              exact ⟨rfl, BB.trans (hbe.mono BB.size)⟩
            · go_enter Try.func10, Try.ntmps10
              go_wp2_with fail
              refine (hr1 _ hA).mono ?_
              rintro e wv1 ⟨rfl, hv1⟩
              replace hA := hA.later hv1
              replace hB := hB.later hv1
              replace hC := hC.later hv1
              have BB := hv1
              clear hv1
              go_wp2_with fail
              refine (hr2 _ hB).mono ?_
              rintro e wv2 ⟨rfl, hv2⟩
              replace hA := hA.later hv2
              replace hB := hB.later hv2
              replace hC := hC.later hv2
              replace BB := BB.trans (hv2.mono BB.size)
              clear hv2
              go_wp2_with fail
              refine (hr3 _ hC).mono ?_
              rintro e wv3 ⟨rfl, hv3⟩
              replace hA := hA.later hv3
              replace hB := hB.later hv3
              replace hC := hC.later hv3
              replace BB := BB.trans (hv3.mono BB.size)
              clear hv3
              have htx := fun W hW => total_any a n cap xs W hW
              have hty := fun W hW => total_any b m cap' ys W hW
              rw [totalB_ok hx] at htx
              rw [totalB_ok hy] at hty
              go_wp2_with fail
              refine (meet_ok a b n m cap cap' xs ys _ hA hB hcb.1 hx hy).mono ?_
              rintro e wv4 ⟨vv1, rs1, rfl, ow1, _, st1, mem1, hv4⟩
              obtain ⟨aa1, cc1, rfl, cap1, SL1⟩ := ow1.slc (fit_of_set st1)
              clear ow1
              replace hA := hA.later hv4
              replace hB := hB.later hv4
              replace hC := hC.later hv4
              replace BB := BB.trans (hv4.mono BB.size)
              clear hv4
              go_wp2_with fail
              refine (meet_ok aa1 c rs1.length k cc1 cap'' rs1 zs _ SL1 hC hcc.1 st1 hz).mono ?_
              rintro e wv5 ⟨vv2, rs2, rfl, ow2, _, st2, mem2, hv5⟩
              obtain ⟨aa2, cc2, rfl, cap2, SL2⟩ := ow2.slc (fit_of_set st2)
              clear ow2
              replace hA := hA.later hv5
              replace hB := hB.later hv5
              replace hC := hC.later hv5
              replace SL1 := SL1.later hv5
              replace BB := BB.trans (hv5.mono BB.size)
              clear hv5
              go_wp2_with fail
              refine (meet_ok b c m k cap' cap'' ys zs _ hB hC hcc.1 hy hz).mono ?_
              rintro e wv6 ⟨vv3, rs3, rfl, ow3, _, st3, mem3, hv6⟩
              obtain ⟨aa3, cc3, rfl, cap3, SL3⟩ := ow3.slc (fit_of_set st3)
              clear ow3
              replace hA := hA.later hv6
              replace hB := hB.later hv6
              replace hC := hC.later hv6
              replace SL1 := SL1.later hv6
              replace SL2 := SL2.later hv6
              replace BB := BB.trans (hv6.mono BB.size)
              clear hv6
              go_wp2_with fail
              refine (meet_ok a aa3 n rs3.length cap cc3 xs rs3 _ hA SL3 cap3.1 hx st3).mono ?_
              rintro e wv7 ⟨vv4, rs4, rfl, ow4, _, st4, mem4, hv7⟩
              obtain ⟨aa4, cc4, rfl, cap4, SL4⟩ := ow4.slc (fit_of_set st4)
              clear ow4
              replace hA := hA.later hv7
              replace hB := hB.later hv7
              replace hC := hC.later hv7
              replace SL1 := SL1.later hv7
              replace SL2 := SL2.later hv7
              replace SL3 := SL3.later hv7
              replace BB := BB.trans (hv7.mono BB.size)
              clear hv7
              go_wp2_with fail
              refine (meet_ok a a n n cap cap xs xs _ hA hA hca.1 hx hx).mono ?_
              rintro e wv8 ⟨vv5, rs5, rfl, ow5, _, st5, mem5, hv8⟩
              obtain ⟨aa5, cc5, rfl, cap5, SL5⟩ := ow5.slc (fit_of_set st5)
              clear ow5
              replace hA := hA.later hv8
              replace hB := hB.later hv8
              replace hC := hC.later hv8
              replace SL1 := SL1.later hv8
              replace SL2 := SL2.later hv8
              replace SL3 := SL3.later hv8
              replace SL4 := SL4.later hv8
              replace BB := BB.trans (hv8.mono BB.size)
              clear hv8
              obtain rfl : rs2 = rs4 := set_ext st2 st4 fun i => by rw [mem2, mem1, mem4, mem3]; constructor <;> (intro h; simp_all)
              obtain rfl : rs5 = xs := set_ext st5 hx fun i => by rw [mem5]; simp
              have hq1 := fun W hW hW' => same_any aa2 aa4 rs2.length rs2.length cc2 cc4 rs2 rs2 W hW hW'
              have hq2 := fun W hW hW' => same_any aa5 a rs5.length n cc5 cap rs5 rs5 W hW hW'
              rw [show decide (rs2 = rs2) = true by simp] at hq1
              rw [show decide (rs5 = rs5) = true by simp] at hq2
              have ht1 := fun W hW => total_any aa1 rs1.length cc1 rs1 W hW
              rw [totalB_ok st1] at ht1
              have l1 := total_meet_le hx st1 fun i h => ((mem1 i).1 h).1
              have l2 := total_meet_le hy st1 fun i h => ((mem1 i).1 h).2
              clear mem1 mem2 mem3 mem4 mem5 st1 st2 st3 st4 st5 hx hy hz
              go_wp2_with fail
              refine (hq1 _ SL2 SL4).mono ?_
              rintro e wv9 ⟨rfl, hv9⟩
              replace hA := hA.later hv9
              replace hB := hB.later hv9
              replace hC := hC.later hv9
              replace SL1 := SL1.later hv9
              replace SL2 := SL2.later hv9
              replace SL3 := SL3.later hv9
              replace SL4 := SL4.later hv9
              replace SL5 := SL5.later hv9
              replace BB := BB.trans (hv9.mono BB.size)
              clear hv9
              go_wp2_with fail
              refine (hq2 _ SL5 hA).mono ?_
              rintro e wv10 ⟨rfl, hv10⟩
              replace hA := hA.later hv10
              replace hB := hB.later hv10
              replace hC := hC.later hv10
              replace SL1 := SL1.later hv10
              replace SL2 := SL2.later hv10
              replace SL3 := SL3.later hv10
              replace SL4 := SL4.later hv10
              replace SL5 := SL5.later hv10
              replace BB := BB.trans (hv10.mono BB.size)
              clear hv10
              go_wp2_with fail
              refine (ht1 _ SL1).mono ?_
              rintro e wv11 ⟨rfl, hv11⟩
              replace hA := hA.later hv11
              replace hB := hB.later hv11
              replace hC := hC.later hv11
              replace SL1 := SL1.later hv11
              replace SL2 := SL2.later hv11
              replace SL3 := SL3.later hv11
              replace SL4 := SL4.later hv11
              replace SL5 := SL5.later hv11
              replace BB := BB.trans (hv11.mono BB.size)
              clear hv11
              go_wp2_with fail
              refine (htx _ hA).mono ?_
              rintro e wv12 ⟨rfl, hv12⟩
              replace hA := hA.later hv12
              replace hB := hB.later hv12
              replace hC := hC.later hv12
              replace SL1 := SL1.later hv12
              replace SL2 := SL2.later hv12
              replace SL3 := SL3.later hv12
              replace SL4 := SL4.later hv12
              replace SL5 := SL5.later hv12
              replace BB := BB.trans (hv12.mono BB.size)
              clear hv12
              go_wp2_with fail
              refine (hty _ hB).mono ?_
              rintro e wv13 ⟨rfl, hv13⟩
              replace hA := hA.later hv13
              replace hB := hB.later hv13
              replace hC := hC.later hv13
              replace SL1 := SL1.later hv13
              replace SL2 := SL2.later hv13
              replace SL3 := SL3.later hv13
              replace SL4 := SL4.later hv13
              replace SL5 := SL5.later hv13
              replace BB := BB.trans (hv13.mono BB.size)
              clear hv13
              generalize total rs1 = t1 at *
              generalize total rs5 = t2 at *
              generalize total ys = t3 at *
              go_wp2_with fail
              refine (haw _).mono ?_
              rintro e we ⟨rfl, hbe⟩
              go_wp2
              go_ret
              exact ⟨rfl, BB.trans (hbe.mono BB.size)⟩

end Sp
end Go.Proofs.Ythbgniclplfpgaa
