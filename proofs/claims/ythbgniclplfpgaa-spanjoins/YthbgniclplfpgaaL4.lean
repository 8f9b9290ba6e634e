/- A part of the proofs about package span: what its functions answer, call by call. -/
import Derived.Test.YthbgniclplfpgaaLk
namespace Go.Proofs.Ythbgniclplfpgaa
open Go.RowKit
namespace Sp

set_option maxRecDepth 100000 in
set_option maxHeartbeats 4000000 in
theorem spanJoins_walk (a : Option Addr) (n cap : Nat) (xs : List (Int × Int)) (w : World) (hA : Sl w a n xs) (_hca : Cap a n cap) :
    Calls Try.prog 4 #[.slice a n cap] w fun e w' => e = .returned (.bool true) ∧ Below w.heap.size w w' := by
  have hn := hA.most
  have haw := awake_any
  have hr1 := fun W hW => few_any a n cap xs W hW
  cases hfew : fewB xs with
  | false =>
    rw [hfew] at hr1
    clear hfew
    go_enter Try.func4, Try.ntmps4
    go_wp2_with fail
    refine (hr1 _ hA).mono ?_
    rintro e wv1 ⟨rfl, hv1⟩
    replace hA := hA.later hv1
    have BB := hv1
    clear hv1
    go_wp2_with fail
    refine (haw _).mono ?_
    rintro e we ⟨rfl, hbe⟩
    go_wp2
    go_ret
    exact ⟨rfl, BB.trans (hbe.mono BB.size)⟩
  | true =>
    rw [hfew] at hr1
    go_enter Try.func4, Try.ntmps4
    go_wp2_with fail
    refine (hr1 _ hA).mono ?_
    rintro e wv1 ⟨rfl, hv1⟩
    replace hA := hA.later hv1
    have BB := hv1
    clear hv1
    have hlen := few_len hfew
    have hal := fun W hW => all_any a n cap xs W hW
    cases hall : allB xs with
    | false =>
      rw [hall] at hal
      go_wp2_with fail
      refine (join_no a n cap xs _ hA hall).mono ?_
      rintro e wv2 ⟨rfl, hv2⟩
      replace hA := hA.later hv2
      replace BB := BB.trans (hv2.mono BB.size)
      clear hv2
      clear hall hfew
      go_wp2_with fail
      refine (hal _ hA).mono ?_
      rintro e wv3 ⟨rfl, hv3⟩
      replace hA := hA.later hv3
      replace BB := BB.trans (hv3.mono BB.size)
      clear hv3
      go_wp2_with fail
      refine (haw _).mono ?_
      rintro e we ⟨rfl, hbe⟩
      go_wp2
      go_ret
      exact ⟨rfl, BB.trans (hbe.mono BB.size)⟩
    | true =>
      rw [hall] at hal
      go_wp2_with fail
      refine (join_ok a n cap xs _ hA hall (by omega)).mono ?_
      rintro e wv2 ⟨vv1, rs1, rfl, ow1, _, st1, mem1, hv2⟩
      obtain ⟨aa1, cc1, rfl, cap1, SL1⟩ := ow1.slc (fit_of_set st1)
      clear ow1
      replace hA := hA.later hv2
      replace BB := BB.trans (hv2.mono BB.size)
      clear hv2
      go_wp2_with fail
      refine (hal _ hA).mono ?_
      rintro e wv3 ⟨rfl, hv3⟩
      replace hA := hA.later hv3
      replace SL1 := SL1.later hv3
      replace BB := BB.trans (hv3.mono BB.size)
      clear hv3
      go_wp2_with fail
      refine (sectors_any a n cap xs _ hA hall).mono ?_
      rintro e wv4 ⟨rfl, row1, hv4⟩
      replace hA := hA.later hv4
      replace SL1 := SL1.later hv4
      replace BB := BB.trans (hv4.mono BB.size)
      clear hv4
      go_wp2_with fail
      refine (set_any _ 400 400 _ _ row1.sb).mono ?_
      rintro e wv5 ⟨rs2, so2, vv2, rfl, ow2, _, hv5⟩
      obtain ⟨aa2, cc2, rfl, cap2, SL2⟩ := ow2.slc (fit_of_set so2.set)
      clear ow2
      replace hA := hA.later hv5
      replace SL1 := SL1.later hv5
      replace row1 := row1.later hv5
      replace BB := BB.trans (hv5.mono BB.size)
      clear hv5
      obtain rfl : rs1 = rs2 := so_eq so2 st1 (fun i hi => few_wi hfew hall ((mem1 i).1 hi)) fun j _ => by rw [mem1]
      have hq1 := fun W hW hW' => same_any aa1 aa2 rs1.length rs1.length cc1 cc2 rs1 rs1 W hW hW'
      rw [show decide (rs1 = rs1) = true by simp] at hq1
      clear mem1 st1 so2 hfew hall row1
      go_wp2_with fail
      refine (hq1 _ SL1 SL2).mono ?_
      rintro e wv6 ⟨rfl, hv6⟩
      replace hA := hA.later hv6
      replace SL1 := SL1.later hv6
      replace SL2 := SL2.later hv6
      replace BB := BB.trans (hv6.mono BB.size)
      clear hv6
      go_wp2_with fail
      refine (haw _).mono ?_
      rintro e we ⟨rfl, hbe⟩
      go_wp2
      go_ret
      exact ⟨rfl, BB.trans (hbe.mono BB.size)⟩

end Sp
end Go.Proofs.Ythbgniclplfpgaa
